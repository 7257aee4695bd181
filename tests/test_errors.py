import unittest

from lookuploops import errors

FIELDS = {
    "BadTables": ("table",),
    "BadFact": ("index",),
    "BadProgram": ("line",),
    "OtherTables": (),
    "NoLine": ("line",),
    "NoKey": ("line",),
    "NoName": ("name",),
    "BadName": ("name",),
    "Taken": ("name",),
    "NotAlike": ("name", "tables"),
    "Rests": ("name", "tables"),
    "BrokenFact": ("fact",),
    "NothingToUndo": (),
}
VALUES = {"table": "people", "index": 2, "line": 3, "name": "pay", "tables": {"a": [(1, 2)], "b": []},
          "fact": "single a"}


class ErrorsTest(unittest.TestCase):
    def test_base_is_a_value_error(self):
        self.assertEqual(errors.LookError.__bases__, (ValueError,))

    def test_all_others_derive_directly_from_the_base(self):
        for name in FIELDS:
            with self.subTest(name):
                self.assertEqual(getattr(errors, name).__bases__, (errors.LookError,))

    def test_each_is_defined_in_the_module(self):
        for name in ["LookError", *FIELDS]:
            self.assertEqual(getattr(errors, name).__module__, "lookuploops.errors")

    def test_each_is_made_from_its_fields_and_keeps_them(self):
        for name, fields in FIELDS.items():
            values = [VALUES[field] for field in fields]
            named = {field: VALUES[field] for field in fields}
            for error in [getattr(errors, name)(*values), getattr(errors, name)(**named)]:
                with self.subTest(name):
                    self.assertEqual([getattr(error, field) for field in fields], values)

    def test_the_fields_are_all_needed_and_no_more(self):
        for name, fields in FIELDS.items():
            for many in range(4):
                if many != len(fields) and fields:
                    with self.subTest(name), self.assertRaises(TypeError):
                        getattr(errors, name)(*range(many))

    def test_each_can_be_raised_and_caught_as_the_base(self):
        for name, fields in FIELDS.items():
            with self.subTest(name), self.assertRaises(errors.LookError):
                raise getattr(errors, name)(*[VALUES[field] for field in fields])

    def test_tables_are_copied(self):
        for kind in [errors.NotAlike, errors.Rests]:
            tables = {"a": [(1, 2)], "b": []}
            error = kind("pay", tables)
            tables["b"].append((3,))
            tables["c"] = []
            self.assertEqual(error.tables, {"a": [(1, 2)], "b": []})

    def test_making_an_error_does_not_fail_for_odd_tables(self):
        self.assertIsNone(errors.NotAlike("pay", None).tables)


if __name__ == "__main__":
    unittest.main()
