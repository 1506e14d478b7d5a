"""The errors: their fields, and what is below what."""

import unittest

from leastequal import errors

OF_PART = [
    "BadNumber", "BadTerm", "BadInput", "BadProgram", "BadRule", "BadBook", "BadLead", "BadClasses", "BadCost",
    "BadStep", "BadCode", "Misfit",
]
BELOW_MISSING = ["NoName", "NoClass", "NoFunction", "NoRule"]
FIELDS = {
    **{word: ("part",) for word in OF_PART},
    **{word: ("value",) for word in ["Missing", "Twice", *BELOW_MISSING]},
    "TooMany": ("what", "most"),
    "Impossible": ("paper",),
    "BadText": ("line", "item"),
}
ODD = [None, True, 0, -3, 10 ** 99, 1.5, "", "a part", "\ud800", b"x", [], [1, [2]], (), {"a": []}, {1}, object(), int]


def cyclic():
    value = []
    value.append(value)
    return value


class Unshowable:
    def __repr__(self):
        raise RuntimeError("this must not be shown")

    __str__ = __repr__


class TestErrors(unittest.TestCase):
    def test_fields_by_place(self):
        for word, fields in FIELDS.items():
            for value in [*ODD, cyclic(), Unshowable()]:
                made = getattr(errors, word)(*[value for _ in fields])
                self.assertEqual(set(vars(made)), set(fields))
                for field in fields:
                    self.assertIs(getattr(made, field), value)
                str(made)

    def test_fields_by_name(self):
        for word, fields in FIELDS.items():
            values = {field: [field] for field in fields}
            made = getattr(errors, word)(**dict(reversed(list(values.items()))))
            for field in fields:
                self.assertIs(getattr(made, field), values[field])

    def test_two_fields_keep_their_order(self):
        self.assertEqual(vars(errors.TooMany("names", 4)), {"what": "names", "most": 4})
        self.assertEqual(vars(errors.BadText(2, 5)), {"line": 2, "item": 5})

    def test_what_is_above_what(self):
        self.assertEqual(errors.EqualError.__bases__, (ValueError,))
        for word in FIELDS:
            above = errors.Missing if word in BELOW_MISSING else errors.EqualError
            self.assertEqual(getattr(errors, word).__bases__, (above,), word)

    def test_they_are_caught_above(self):
        for above in (errors.NoName, errors.Missing, errors.EqualError, ValueError):
            with self.assertRaises(above):
                raise errors.NoName("x")

    def test_no_others(self):
        found = {key for key, told in vars(errors).items() if isinstance(told, type)}
        self.assertEqual(found, set(FIELDS) | {"EqualError"})


if __name__ == "__main__":
    unittest.main()
