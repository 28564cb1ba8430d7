"""A shell: requests to one who holds a sealer, a server's log, and the history of those who are shown it."""

from leafway.errors import BadText, CanNot, NoPlace, Unfit
from leafway.lies import changed
from leafway.lines import lines_of
from leafway.people import can_tell, first_told, holds, tellers
from leafway.plain import number_in
from leafway.roots import head_of
from leafway.telling import entry_told, rise_told
from leafway.texts import head_text, log_read, sealer_read, told_read, told_text

# Numbers in requests have at most so many figures.
_FIGURES = 6

# How many numbers stand behind the word of each request.
_NUMBERS = {"sealer": 0, "log": 0, "grow": 0, "alter": 1, "put": 1, "drop": 1, "turn": 2, "cut": 1, "show": 2,
            "rise": 2, "all": 1, "give": 1, "meet": 2, "undo": 0, "size": 0, "head": 1, "holds": 1, "things": 1,
            "tells": 1, "first": 0, "tellers": 0}

_WITH_TEXT = ("sealer", "log", "grow", "alter", "put", "give")


class Desk:
    """What a shell holds: its state, a sealer, a log and a history, and the states ahead of each deed."""

    def __init__(self):
        self.state = (("weak", 1000, 0), (), ())
        self.past = []

    def reply(self, word, numbers, text):
        """Work a request; return the reply."""
        if word == "undo":
            return self.undo()
        if word in _ANSWERS:
            answer = _ANSWERS[word]
            return answer(self.state, numbers)
        deed = _DEEDS[word]
        later = deed(self.state, numbers, text)
        self.past.append((word, self.state))
        self.state = later
        return "done"

    def undo(self):
        """Take the last deed back; return its word."""
        if not self.past:
            raise CanNot()
        word, self.state = self.past.pop()
        return word


def shell(text):
    """Return the replies to the requests in text."""
    desk = Desk()
    return [_reply(desk, word, numbers, own) for word, numbers, own in _requests(text)]


def is_request(thing):
    """Tell whether thing is a string that is one request."""
    if not isinstance(thing, str):
        return False
    try:
        requests = _requests(thing)
    except BadText:
        return False
    return len(requests) == 1


def _reply(desk, word, numbers, text):
    """Return the reply of desk, also if it refuses."""
    try:
        return desk.reply(word, numbers, text)
    except BadText:
        return "refused BadText"
    except CanNot:
        return "refused CanNot"
    except NoPlace:
        return "refused NoPlace"
    except Unfit:
        return "refused Unfit"


def _requests(text):
    """Return the word, the numbers and the text of each request; BadText for the first line that begins none."""
    lines, found, at = lines_of(text), [], 0
    while at < len(lines):
        behind = at + 1
        while behind < len(lines) and lines[behind].startswith(" "):
            behind = behind + 1
        word, numbers = _word_and_numbers(lines[at])
        if word is None or (word in _WITH_TEXT) != (behind > at + 1):
            raise BadText(at + 1)
        found.append((word, numbers, "\n".join([line[1:] for line in lines[at + 1:behind]])))
        at = behind
    return found


def _word_and_numbers(line):
    """Return the word and the numbers of the request that begins with line; None and [] if there is none."""
    word, *figures = line.split(" ")
    numbers = [number_in(own, _FIGURES) for own in figures]
    if word not in _NUMBERS or len(numbers) != _NUMBERS[word] or None in numbers:
        return None, []
    return word, numbers


def _hold_sealer(_state, _numbers, text):
    """Hold another sealer, and an empty log and history."""
    return sealer_read(text), (), ()


def _hold_log(state, _numbers, text):
    """Hold another log."""
    return state[0], log_read(text), state[2]


def _grow(state, _numbers, text):
    """Put entries behind those of the log."""
    return state[0], state[1] + log_read(text), state[2]


def _with_entry(word, state, numbers, text):
    """Make a change with one entry."""
    log = log_read(text)
    if len(log) != 1:
        raise Unfit()
    return state[0], changed(state[1], (word, numbers[0], log[0])), state[2]


def _alter(state, numbers, text):
    """Alter an entry."""
    return _with_entry("alter", state, numbers, text)


def _put(state, numbers, text):
    """Put an entry in."""
    return _with_entry("put", state, numbers, text)


def _drop(state, numbers, _text):
    """Drop an entry."""
    return state[0], changed(state[1], ("drop", numbers[0])), state[2]


def _turn(state, numbers, _text):
    """Exchange two entries."""
    return state[0], changed(state[1], ("turn", numbers[0], numbers[1])), state[2]


def _cut(state, numbers, _text):
    """Cut all entries off from a size on."""
    return state[0], changed(state[1], ("cut", numbers[0])), state[2]


def _behind(state, events):
    """Return state with events behind its history."""
    return state[0], state[1], (*state[2], *events)


def _show(state, numbers, _text):
    """Show a person an entry."""
    return _behind(state, [("show", numbers[0], entry_told(state[0], state[1], numbers[1]))])


def _rise(state, numbers, _text):
    """Show a person a rise."""
    return _behind(state, [("show", numbers[0], rise_told(state[0], state[1], numbers[1]))])


def _all(state, numbers, _text):
    """Show a person the whole log."""
    return _behind(state, [("show", numbers[0], ("all", head_of(state[0], state[1]), state[1]))])


def _give(state, numbers, text):
    """Show a person what text tells."""
    return _behind(state, [("show", numbers[0], told) for told in told_read(state[0], text)])


def _meet(state, numbers, _text):
    """Let two persons meet."""
    if numbers[0] == numbers[1]:
        raise Unfit()
    return _behind(state, [("meet", numbers[0], numbers[1])])


_DEEDS = {"sealer": _hold_sealer, "log": _hold_log, "grow": _grow, "alter": _alter, "put": _put, "drop": _drop,
          "turn": _turn, "cut": _cut, "show": _show, "rise": _rise, "all": _all, "give": _give, "meet": _meet}


def _size(state, _numbers):
    """Tell how many entries the log has."""
    return str(len(state[1]))


def _head(state, numbers):
    """Tell the head of the log's first entries."""
    if numbers[0] > len(state[1]):
        raise Unfit()
    return head_text(state[0], head_of(state[0], state[1][:numbers[0]]))


def _held(state, numbers):
    """Return what a person holds."""
    return holds(state[0], state[2], numbers[0])


def _holds(state, numbers):
    """Tell how many things a person holds."""
    return str(len(_held(state, numbers)))


def _things(state, numbers):
    """Tell what a person holds."""
    return told_text(state[0], _held(state, numbers)) or "-"


def _tells(state, numbers):
    """Tell whether a person can tell."""
    return "yes" if can_tell(state[0], _held(state, numbers)) else "no"


def _first(state, _numbers):
    """Tell behind which event somebody can tell first, and who can."""
    found = first_told(state[0], state[2])
    return "-" if found is None else _words([found[0], *found[1]])


def _tellers(state, _numbers):
    """Tell which two could tell if they met."""
    return _words([person for pair in tellers(state[0], state[2]) for person in pair]) or "-"


def _words(numbers):
    """Return numbers with a blank between."""
    return " ".join([str(own) for own in numbers])


_ANSWERS = {"size": _size, "head": _head, "holds": _holds, "things": _things, "tells": _tells, "first": _first,
            "tellers": _tellers}
