import unittest

from lookuploops.errors import BadProgram, BadTables, NoName
from lookuploops.schema import Schema

RESERVED = (
    "table index of in from at by keep first last all where until find get need each if else end put next and not "
    "is some before has missing none"
).split(" ")


class ReadingTest(unittest.TestCase):
    def wrong(self, text, line):
        with self.subTest(text), self.assertRaises(BadProgram) as caught:
            Schema(text)
        if hasattr(caught, "exception"):
            self.assertEqual(caught.exception.line, line)

    def test_tables_and_columns_in_the_order_of_the_text(self):
        schema = Schema("table zoo k n v\ntable a k\ntable b v k")
        self.assertEqual(schema.tables, ("zoo", "a", "b"))
        self.assertIs(type(schema.tables), tuple)
        self.assertEqual(schema.columns("zoo"), ("k", "n", "v"))
        self.assertEqual(schema.columns("a"), ("k",))
        self.assertEqual(schema.columns("b"), ("v", "k"))
        self.assertIs(type(schema.columns("b")), tuple)

    def test_class_is_defined_in_its_module(self):
        self.assertEqual(Schema.__module__, "lookuploops.schema")

    def test_one_to_four_tables(self):
        lines = ["table a k", "table b k", "table c k", "table d k", "table e k", "table f k"]
        for many in range(1, 5):
            self.assertEqual(len(Schema("\n".join(lines[:many])).tables), many)
        self.wrong("\n".join(lines[:5]), 5)
        self.wrong("\n".join(lines), 5)

    def test_one_to_three_columns(self):
        self.assertEqual(Schema("table a k n v").columns("a"), ("k", "n", "v"))
        self.wrong("table a", 1)
        self.wrong("table", 1)
        self.wrong("table a k n v w", 1)
        self.wrong("table b k\ntable a k n v w", 2)

    def test_columns_of_a_table_differ(self):
        self.wrong("table a k k", 1)
        self.wrong("table a k n k", 1)
        self.wrong("table a n k k", 1)

    def test_columns_may_be_called_like_anything_else(self):
        schema = Schema("table a a b\ntable b a b")
        self.assertEqual(schema.columns("a"), ("a", "b"))
        self.assertEqual(schema.columns("b"), ("a", "b"))

    def test_names_of_tables_differ_and_the_later_line_is_wrong(self):
        self.wrong("table a k\ntable a n", 2)
        self.wrong("table a k\ntable b k\ntable a k", 3)
        self.wrong("table a k\ntable b k\ntable b k\nrubbish", 3)

    def test_the_first_wrong_line_counts(self):
        self.wrong("rubbish", 1)
        self.wrong("table a k\nrubbish\ntable a k", 2)
        self.wrong("put hi\ntable a k", 1)
        self.wrong("table a k\nput hi", 2)
        self.wrong("table a k\nindex d of q in a by k keep first", 2)
        self.wrong("Table a k", 1)
        self.wrong("tables a k", 1)

    def test_empty_text_and_empty_lines(self):
        self.wrong("", 1)
        self.wrong("\n", 1)
        self.wrong("\ntable a k", 1)
        self.wrong("table a k\n", 2)
        self.wrong("table a k\n\ntable b k", 2)

    def test_empty_words(self):
        for line in [" table a k", "table  a k", "table a  k", "table a k ", "table a k  n", " ", "table a "]:
            self.wrong(line, 1)
            self.wrong("table z k\n" + line, 2)

    def test_only_single_spaces_and_newlines_separate(self):
        for line in ["table\ta k", "table a\tk", "table a k\t", "table a k\r", "table a k\rtable b k", "table a k\x0b"]:
            self.wrong(line, 1)
        self.wrong("table a k\r\ntable b k", 1)
        self.wrong("table a k\x0ctable b k", 1)

    def test_length_of_names(self):
        schema = Schema("table abcdefghijkl zyxwvutsrqpo m")
        self.assertEqual(schema.columns("abcdefghijkl"), ("zyxwvutsrqpo", "m"))
        self.wrong("table abcdefghijklm k", 1)
        self.wrong("table a abcdefghijklm", 1)

    def test_letters_of_names(self):
        for word in ["A", "aB", "a1", "1", "a_b", "a.b", "a-b", "%", "\xe4", "a\xe4", "\u0430", "a\u0131", "~", "`", "{"]:
            self.wrong(f"table {word} k", 1)
            self.wrong(f"table a {word}", 1)
            self.wrong(f"table a k {word}", 1)

    def test_reserved_words_are_no_names(self):
        self.assertEqual(len(RESERVED), 30)
        for word in RESERVED:
            self.wrong(f"table {word} k", 1)
            self.wrong(f"table a {word}", 1)
            self.wrong(f"table a k {word} n", 1)

    def test_words_close_to_reserved_ones_are_names(self):
        for word in ["tables", "tabl", "firstlast", "ofin", "unique", "sorted", "single", "filled", "found", "true"]:
            self.assertEqual(Schema(f"table {word} {word}").columns(word), (word,))


class AskingTest(unittest.TestCase):
    def test_strange_table_has_no_columns(self):
        schema = Schema("table a k\ntable b k")
        for name in ["c", "k", "", "A", "a.k"]:
            with self.assertRaises(NoName) as caught:
                schema.columns(name)
            self.assertEqual(caught.exception.name, name)
        self.assertEqual(schema.tables, ("a", "b"))

    def test_fits_itself_and_the_same_text(self):
        schema = Schema("table a k n\ntable b k")
        self.assertIs(schema.fits(schema), True)
        self.assertIs(schema.fits(Schema("table a k n\ntable b k")), True)

    def test_fits_with_the_tables_in_another_order(self):
        one = Schema("table a k n\ntable b k")
        other = Schema("table b k\ntable a k n")
        self.assertIs(one.fits(other), True)
        self.assertIs(other.fits(one), True)

    def test_other_schemas_do_not_fit(self):
        one = Schema("table a k n\ntable b k")
        for text in [
            "table a n k\ntable b k",
            "table a k\ntable b k",
            "table a k n v\ntable b k",
            "table a k n",
            "table a k n\ntable b k\ntable c k",
            "table a k n\ntable c k",
            "table a k n\ntable b n",
            "table b k n\ntable a k",
        ]:
            with self.subTest(text):
                self.assertIs(one.fits(Schema(text)), False)
                self.assertIs(Schema(text).fits(one), False)


class CheckingTest(unittest.TestCase):
    def setUp(self):
        self.schema = Schema("table m k n\ntable b k\ntable c k n v")

    def wrong(self, tables, table):
        with self.assertRaises(BadTables) as caught:
            self.schema.check(tables)
        self.assertEqual(caught.exception.table, table)

    def test_right_tables(self):
        big = 10 ** 999 + 7
        for tables in [
            {"m": [], "b": [], "c": []},
            {"c": [(1, 2, 3), (1, 2, 3)], "b": [(-5,), (0,)], "m": [(big, -big)]},
            {"m": ((1, 2),), "b": (), "c": []},
        ]:
            self.assertIsNone(self.schema.check(tables))

    def test_lacking_tables_in_the_order_of_the_schema(self):
        self.wrong({}, "m")
        self.wrong({"m": []}, "b")
        self.wrong({"m": [], "b": []}, "c")
        self.wrong({"c": [], "b": []}, "m")

    def test_rows_too_short_or_too_long(self):
        self.wrong({"m": [(1,)], "b": [], "c": []}, "m")
        self.wrong({"m": [(1, 2, 3)], "b": [], "c": []}, "m")
        self.wrong({"m": [(1, 2), ()], "b": [], "c": []}, "m")
        self.wrong({"m": [(1, 2)], "b": [(1,), (1, 2), (1,)], "c": []}, "b")
        self.wrong({"m": [], "b": [], "c": [(1, 2, 3), (1, 2)]}, "c")

    def test_rows_with_what_is_no_integer(self):
        for value in [True, False, None, "1", 1.0, (1,), b"1"]:
            with self.subTest(value):
                self.wrong({"m": [], "b": [(1,), (value,)], "c": []}, "b")
                self.wrong({"m": [(1, value)], "b": [], "c": []}, "m")

    def test_rows_that_are_no_tuples(self):
        for row in [1, None, "1"]:
            with self.subTest(row):
                self.wrong({"m": [], "b": [row], "c": []}, "b")

    def test_first_wrong_table_of_the_schema_lacking_or_with_a_wrong_row(self):
        self.wrong({"m": [(1,)], "c": [(1,)]}, "m")
        self.wrong({"m": [], "c": [(1,)]}, "b")
        self.wrong({"m": [], "b": [()]}, "b")
        self.wrong({"c": [(1,)], "b": [()], "m": []}, "b")

    def test_strange_keys_in_ascending_order(self):
        right = {"m": [], "b": [], "c": []}
        self.wrong({**right, "z": []}, "z")
        self.wrong({"z": [], "y": [], "d": [], **right, "x": []}, "d")
        self.wrong({"ab": [], "a": [], **right}, "a")
        self.wrong({"n": [], "": [], **right}, "")

    def test_tables_of_the_schema_ahead_of_strange_keys(self):
        self.wrong({"a": [], "m": [], "b": []}, "c")
        self.wrong({"a": [], "m": [], "b": [], "c": [(1,)]}, "c")

    def test_what_is_handed_in_stays(self):
        tables = {"m": [(1, 2)], "b": [(3,)], "c": [], "z": []}
        self.wrong(tables, "z")
        self.assertEqual(list(tables.items()), [("m", [(1, 2)]), ("b", [(3,)]), ("c", []), ("z", [])])


if __name__ == "__main__":
    unittest.main()
