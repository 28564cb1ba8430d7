"""The error classes [2] [17]."""

import unittest

from leafway import errors

WITH_VALUE = (("NoPlace", LookupError, "place"), ("BadText", ValueError, "line"))
WITHOUT = ("CanNot", "TooMuch", "Unfit")


class ErrorClasses(unittest.TestCase):

    def test_each_has_just_its_builtin_class_above_it(self):
        for word, base, _ in WITH_VALUE:
            self.assertEqual(getattr(errors, word).__bases__, (base,))
        for word in WITHOUT:
            self.assertEqual(getattr(errors, word).__bases__, (ValueError,))

    def test_value_by_position_and_by_name_is_kept(self):
        for word, _, name in WITH_VALUE:
            made = getattr(errors, word)
            for value in (0, 7, 10 ** 18):
                self.assertEqual(vars(made(value)), {name: value})
                self.assertEqual(vars(made(**{name: value})), {name: value})
                self.assertEqual(getattr(made(**{name: value}), name), value)

    def test_another_number_of_values_is_refused(self):
        for word, _, _ in WITH_VALUE:
            self.assertRaises(TypeError, getattr(errors, word))
            self.assertRaises(TypeError, getattr(errors, word), 1, 2)
        for word in WITHOUT:
            self.assertRaises(TypeError, getattr(errors, word), 1)

    def test_those_without_value_are_made_of_nothing(self):
        for word in WITHOUT:
            self.assertEqual(vars(getattr(errors, word)()), {})

    def test_each_is_raised_and_caught_as_its_builtin_class(self):
        with self.assertRaises(LookupError) as caught:
            raise errors.NoPlace(3)
        self.assertEqual(caught.exception.place, 3)
        with self.assertRaises(ValueError) as caught:
            raise errors.BadText(line=4)
        self.assertEqual(caught.exception.line, 4)
        for word in WITHOUT:
            with self.assertRaises(ValueError):
                raise getattr(errors, word)()

    def test_no_one_is_an_other(self):
        made = [errors.NoPlace(1), errors.BadText(1), errors.CanNot(), errors.TooMuch(), errors.Unfit()]
        kinds = [errors.NoPlace, errors.BadText, errors.CanNot, errors.TooMuch, errors.Unfit]
        for at, one in enumerate(made):
            self.assertEqual([isinstance(one, kind) for kind in kinds], [at == other for other in range(5)])
