"""[2] and "numberwall/errors.py": the errors."""

import unittest

from numberwall import errors

FIELDS = {
    "BadNumber": ("what", "number"),
    "BadProgram": ("index",),
    "BadConfiguration": ("configuration",),
    "BadStep": ("index",),
    "BadLot": ("lot",),
    "BadFormula": ("formula",),
    "BadReads": ("reads",),
    "Unlike": ("what",),
    "TooMany": ("most",),
    "NotOfKind": ("why",),
    "BadText": ("column",),
    "BadLine": ("line", "column"),
    "BadName": ("name",),
    "NoName": ("name",),
    "TakenName": ("name",),
    "NotKept": ("promise", "witness"),
    "NothingToUndo": (),
    "NothingToRedo": (),
}
ODD_VALUES = ([1, [2]], {"a": []}, None, True, "text", (0, ()), object())


class Errors(unittest.TestCase):
    def test_fields_are_kept_just_as_they_are(self):
        for name, fields in FIELDS.items():
            kind = getattr(errors, name)
            for value in ODD_VALUES:
                values = [value] + [object() for _ in fields[1:]]
                error = kind(*values[:len(fields)])
                for field, kept in zip(fields, values):
                    self.assertIs(getattr(error, field), kept, name)

    def test_fields_stand_in_order_and_have_names(self):
        for name, fields in FIELDS.items():
            kind = getattr(errors, name)
            numbers = range(len(fields))
            self.assertEqual(vars(kind(*numbers)), dict(zip(fields, numbers)))
            self.assertEqual(vars(kind(**dict(zip(fields, numbers)))), dict(zip(fields, numbers)))

    def test_each_needs_just_its_fields(self):
        for name, fields in FIELDS.items():
            if fields:
                self.assertRaises(TypeError, getattr(errors, name), *fields[1:])
                self.assertRaises(TypeError, getattr(errors, name), *fields, 0)

    def test_each_is_a_wall_error_and_no_other(self):
        kinds = [getattr(errors, name) for name in FIELDS]
        for kind in kinds:
            error = kind(*range(len(FIELDS[kind.__name__])))
            self.assertIsInstance(error, errors.WallError)
            self.assertIsInstance(error, ValueError)
            self.assertEqual(kind.__bases__, (errors.WallError,))
            self.assertEqual([other for other in kinds if isinstance(error, other)], [kind])

    def test_wall_error_is_a_value_error(self):
        self.assertEqual(errors.WallError.__bases__, (ValueError,))
        for name in FIELDS:
            self.assertFalse(issubclass(errors.WallError, getattr(errors, name)))

    def test_errors_can_be_raised_and_caught(self):
        for name, fields in FIELDS.items():
            with self.assertRaises(errors.WallError) as caught:
                raise getattr(errors, name)(*fields)
            self.assertIsInstance(str(caught.exception), str)


if __name__ == "__main__":
    unittest.main()
