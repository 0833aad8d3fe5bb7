"""The error classes: what each one is under, what it is made with, and what it keeps."""

import unittest

from samples import ODD
from shortbars import errors

GIVEN = (
    "BadHistory", "BadOrder", "BadLot", "BadThing", "BadNumber", "BadValue", "BadValues", "BadRenaming", "BadTurn",
    "BadRow", "BadPile", "BadMoment", "BadSort", "BadSorts", "BadParts", "BadLog", "BadHands", "BadStanding",
    "BadQuestion", "BadTold", "BadPlace", "BadWord", "BadGiven", "NotExplained",
)
FIELDS = {name: ("given",) for name in GIVEN}
FIELDS.update({"BadPaper": ("part",), "BadTerm": ("path",), "BadText": ("line", "word")})
OTHERS = {
    "TooMany": (OverflowError, ("most",)), "Missing": (KeyError, ("given",)), "NothingLeft": (RuntimeError, ("many",)),
}


class TestErrors(unittest.TestCase):
    def test_there_are_just_these(self):
        names = [name for name, thing in vars(errors).items() if isinstance(thing, type)]
        self.assertEqual(sorted(names), sorted(list(FIELDS) + list(OTHERS) + ["CallError"]))

    def test_call_error_is_made_as_a_value_error(self):
        self.assertEqual(errors.CallError.__bases__, (ValueError,))
        for things in ((), ("x",), (1, None)):
            self.assertEqual(errors.CallError(*things).args, ValueError(*things).args)
            self.assertEqual(str(errors.CallError(*things)), str(ValueError(*things)))

    def test_all_refusals_stand_straight_under_it(self):
        for name in FIELDS:
            self.assertEqual(getattr(errors, name).__bases__, (errors.CallError,), name)
            self.assertEqual(getattr(errors, name).__module__, "shortbars.errors")

    def test_the_other_three_do_not(self):
        for name, (base, _) in OTHERS.items():
            self.assertEqual(getattr(errors, name).__bases__, (base,), name)
            self.assertFalse(issubclass(getattr(errors, name), errors.CallError))

    def test_each_keeps_what_it_is_made_with(self):
        every = dict(FIELDS)
        every.update({name: fields for name, (_, fields) in OTHERS.items()})
        for name, fields in every.items():
            for thing in ODD:
                things = (thing, "second")[:len(fields)]
                error = getattr(errors, name)(*things)
                self.assertEqual(list(vars(error)), list(fields), name)
                for field, kept in zip(fields, things):
                    self.assertIs(getattr(error, field), kept)

    def test_none_is_made_of_more_or_fewer(self):
        for name in list(FIELDS) + list(OTHERS):
            for things in ((), (1, 2, 3)):
                with self.assertRaises(TypeError):
                    getattr(errors, name)(*things)

    def test_they_are_raised_and_caught_by_name(self):
        with self.assertRaises(ValueError) as caught:
            raise errors.BadText(3, None)
        self.assertEqual((caught.exception.line, caught.exception.word), (3, None))
        with self.assertRaises(KeyError):
            raise errors.Missing([])


if __name__ == "__main__":
    unittest.main()
