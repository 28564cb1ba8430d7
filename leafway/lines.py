"""Lines: a text that is read line by line."""

from leafway.errors import BadText


class Lines:
    """The lines of a text, parted by line feeds alone, and the one that is read next."""

    def __init__(self, text):
        self.rows = lines_of(text)
        self.at = 0

    def has_more(self):
        """Tell whether there is one more line."""
        return self.at < len(self.rows)

    def number(self):
        """Return the number of the line, or of the one behind the last."""
        return self.at + 1

    def row(self):
        """Return the line; BadText if there is none."""
        if not self.has_more():
            raise BadText(self.number())
        return self.rows[self.at]

    def step(self):
        """Go on to what comes behind the line."""
        self.at += 1

    def check_end(self):
        """Raise BadText if there is one more line."""
        if self.has_more():
            raise BadText(self.number())

    def begins(self, word):
        """Tell whether there is a line that begins with word and a blank."""
        return self.has_more() and self.row().startswith(word + " ")

    def behind(self, word):
        """Return what stands in the line behind word and a blank; BadText if it does not begin so."""
        if not self.begins(word):
            raise BadText(self.number())
        return self.row()[len(word) + 1:]

    def two_behind(self, word):
        """Return what stands behind word up to the next blank, and behind that; BadText if there are not both."""
        first, blank, rest = self.behind(word).partition(" ")
        if not blank:
            raise BadText(self.number())
        return first, rest


def lines_of(text):
    """Return the lines of text; the empty text has none."""
    return text.split("\n") if text else []
