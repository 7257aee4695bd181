import unittest

from lookuploops.errors import BadFact, BadTables, OtherTables
from lookuploops.facts import Facts
from lookuploops.schema import Schema

SCHEMA = Schema("table a k n\ntable b k\ntable c k\ntable d k")


class ExamplesTest(unittest.TestCase):
    def test_examples_of_the_document(self):
        schema = Schema("table a k n\ntable b k")
        one = Facts(schema, ["found a.k in b.k", "filled a"])
        told = [one.broken({"a": [(1, 2)], "b": [(2,)]}), one.implies("filled b"), one.implies("single a")]
        self.assertEqual(told, ["found a.k in b.k", True, False])
        both = one | Facts(schema, ["single b", "unique a.k"])
        told = [both.implies("single a"), both.lines[2:], "filled a" in both]
        self.assertEqual(told, [True, ["single b", "unique a.k"], True])
        with self.assertRaises(BadFact) as caught:
            one | Facts(schema, ["found b.k in a.n"])
        self.assertEqual(caught.exception.index, 2)

    def test_class_and_its_methods_are_defined_in_the_module(self):
        self.assertEqual(Facts.__module__, "lookuploops.facts")
        for name in ["__init__", "lines", "__iter__", "__contains__", "__or__", "broken", "implies"]:
            self.assertIn(name, vars(Facts))
        self.assertIsInstance(vars(Facts)["lines"], property)


class ReadingTest(unittest.TestCase):
    def wrong(self, lines, index, schema=SCHEMA):
        with self.subTest(lines), self.assertRaises(BadFact) as caught:
            Facts(schema, lines)
        if hasattr(caught, "exception"):
            self.assertEqual(caught.exception.index, index)

    def test_all_forms(self):
        lines = ["unique a.n", "sorted b.k", "single c", "filled a", "found a.n in c.k"]
        self.assertEqual(Facts(SCHEMA, lines).lines, lines)

    def test_no_facts(self):
        facts = Facts(SCHEMA, [])
        self.assertEqual([facts.lines, list(facts), "filled a" in facts], [[], [], False])

    def test_lines_that_have_none_of_the_forms(self):
        for line in [
            "", "unique", "sorted", "single", "filled", "found", "rising a.k", "a.k", "unique a", "sorted a",
            "single a.k", "filled a.k", "found a in b", "found a.k in b", "found a in b.k", "found a.k of b.k",
            "found a.k b.k", "found a.k in", "unique a.k n", "unique a.k a.n", "sorted a.k in b.k", "single a b",
            "filled a in b", "found a.k in b.k c.k", "found a.k in b.k in c.k", "Unique a.k", "unique A.k",
            "unique a.k.n", "unique .k", "unique a.", "unique .", "unique a..k", "single a\n", "single a\nsingle b",
            "single\ta", "unique a .k", "unique a. k", "not single a", "unique k", "unique a.k,n", "table a k",
            "found a.k In b.k", "is unique a.k", "single %",
        ]:
            self.wrong([line], 0)
            self.wrong(["filled a", "single a", line], 2)
            self.wrong(["filled a", line, "single a", "rubbish"], 1)

    def test_empty_words(self):
        for line in [
            " unique a.k", "unique  a.k", "unique a.k ", " single a", "single  a", "single a ", " ", "unique ",
            "found  a.k in b.k", "found a.k  in b.k", "found a.k in  b.k", "found a.k in b.k ", " found a.k in b.k",
        ]:
            self.wrong([line], 0)
            self.wrong(["filled a", line], 1)

    def test_unknown_tables_and_columns(self):
        for line in [
            "unique e.k", "unique b.n", "sorted e.k", "sorted b.n", "single e", "filled e", "single k", "filled k",
            "found e.k in b.k", "found b.n in a.k", "found a.k in e.k", "found a.k in b.n", "unique a.a",
        ]:
            self.wrong([line], 0)
            self.wrong(["filled a", "sorted a.k", line], 2)

    def test_tables_may_be_called_like_the_words_of_facts(self):
        schema = Schema("table unique sorted single\ntable found found\ntable single filled")
        lines = ["unique unique.sorted", "single single", "found unique.single in found.found", "filled found"]
        self.assertEqual(Facts(schema, lines).lines, lines)
        self.wrong(["single single", "single filled"], 1, schema)

    def test_line_that_stands_twice_counts_once_where_it_stands_first(self):
        facts = Facts(SCHEMA, ["filled b", "single a", "filled b", "found a.k in b.k", "single a", "found a.k in b.k"])
        self.assertEqual(facts.lines, ["filled b", "single a", "found a.k in b.k"])
        self.assertEqual(list(facts), ["filled b", "single a", "found a.k in b.k"])

    def test_indexes_count_what_was_handed_in(self):
        self.wrong(["filled b", "filled b", "filled b", "rubbish"], 3)
        self.wrong(["found a.k in b.k", "found a.k in b.k", "found b.k in a.k"], 2)

    def test_found_within_one_table_leads_back(self):
        self.wrong(["found a.k in a.n"], 0)
        self.wrong(["found a.k in a.k"], 0)
        self.wrong(["single a", "found a.n in a.k"], 1)

    def test_found_that_leads_back_over_any_columns(self):
        self.wrong(["found a.k in b.k", "found b.k in a.k"], 1)
        self.wrong(["found a.k in b.k", "found b.k in a.n"], 1)
        self.wrong(["found a.k in b.k", "filled a", "found b.k in c.k", "found c.k in a.n"], 3)
        self.wrong(["found c.k in d.k", "found a.n in c.k", "found d.k in a.k"], 2)
        self.wrong(["found a.k in b.k", "found b.k in c.k", "found c.k in d.k", "found d.k in b.k"], 3)
        self.wrong(["found c.k in d.k", "found b.k in c.k", "found a.k in b.k", "found d.k in a.k"], 3)

    def test_the_line_that_closes_the_chain_is_the_wrong_one(self):
        self.wrong(["found b.k in a.n", "found a.k in b.k", "rubbish"], 1)
        self.wrong(["found b.k in a.n", "rubbish", "found a.k in b.k"], 1)

    def test_found_that_does_not_lead_back(self):
        for lines in [
            ["found a.k in b.k", "found a.n in b.k", "found a.k in c.k"],
            ["found a.k in d.k", "found b.k in d.k", "found c.k in d.k"],
            ["found a.k in b.k", "found b.k in c.k", "found a.k in c.k"],
            ["found c.k in d.k", "found b.k in c.k", "found a.k in b.k"],
        ]:
            self.assertEqual(Facts(SCHEMA, lines).lines, lines)

    def test_six_facts_three_of_them_found_and_somewhat_more(self):
        six = ["found a.k in b.k", "found b.k in c.k", "found c.k in d.k", "filled a", "single d", "unique a.n"]
        self.assertEqual(Facts(SCHEMA, six).lines, six)
        self.assertEqual([Facts(SCHEMA, six).implies(f"filled {table}") for table in "abcd"], [True] * 4)
        more = [*six, "sorted a.k", "unique a.k", "found a.n in c.k"]
        facts = Facts(SCHEMA, more)
        self.assertEqual(facts.lines, more)
        self.assertEqual([facts.implies("single a"), facts.implies("unique b.k")], [True, False])
        self.assertIsNone(facts.broken({"a": [(1, 1)], "b": [(1,), (1,)], "c": [(1,)], "d": [(1,)]}))

    def test_a_tuple_may_be_passed(self):
        self.assertEqual(Facts(SCHEMA, ("filled a", "single a")).lines, ["filled a", "single a"])


class CopyingTest(unittest.TestCase):
    def test_what_is_handed_in_stays_and_may_be_changed(self):
        lines = ["filled a", "single a", "filled a"]
        facts = Facts(SCHEMA, lines)
        self.assertEqual(lines, ["filled a", "single a", "filled a"])
        lines.append("rubbish")
        lines[0] = "filled b"
        self.assertEqual(facts.lines, ["filled a", "single a"])
        self.assertIs(facts.implies("filled b"), False)

    def test_lines_stay_when_they_are_wrong(self):
        lines = ["filled a", "filled a", "rubbish"]
        with self.assertRaises(BadFact):
            Facts(SCHEMA, lines)
        self.assertEqual(lines, ["filled a", "filled a", "rubbish"])

    def test_lines_are_new_each_time_and_may_be_changed(self):
        facts = Facts(SCHEMA, ["filled a", "single a"])
        first = facts.lines
        self.assertIs(type(first), list)
        self.assertIsNot(first, facts.lines)
        first.clear()
        facts.lines.append("rubbish")
        self.assertEqual(facts.lines, ["filled a", "single a"])
        self.assertEqual(list(facts), ["filled a", "single a"])
        self.assertIs("filled a" in facts, True)

    def test_iteration_can_be_repeated_and_nested(self):
        facts = Facts(SCHEMA, ["filled a", "single a"])
        pairs = [(one, other) for one in facts for other in facts]
        self.assertEqual(len(pairs), 4)
        self.assertEqual([line for line in facts], facts.lines)

    def test_in_asks_for_the_very_line(self):
        facts = Facts(SCHEMA, ["filled a", "found a.k in b.k"])
        told = [line in facts for line in ["filled a", "found a.k in b.k", "filled b", "filled", "rubbish", ""]]
        self.assertEqual(told, [True, True, False, False, False, False])

    def test_an_implied_line_is_not_in(self):
        self.assertIs("filled b" in Facts(SCHEMA, ["filled a", "found a.k in b.k"]), False)


class JoiningTest(unittest.TestCase):
    def test_lines_of_the_left_one_first_and_each_once(self):
        one = Facts(SCHEMA, ["filled a", "single b"])
        other = Facts(SCHEMA, ["unique a.k", "single b", "filled c"])
        both = one | other
        self.assertIs(type(both), Facts)
        self.assertEqual(both.lines, ["filled a", "single b", "unique a.k", "filled c"])
        self.assertEqual((other | one).lines, ["unique a.k", "single b", "filled c", "filled a"])
        self.assertEqual(one.lines, ["filled a", "single b"])
        self.assertEqual(other.lines, ["unique a.k", "single b", "filled c"])

    def test_in_place_makes_a_new_object(self):
        one = kept = Facts(SCHEMA, ["filled a"])
        one |= Facts(SCHEMA, ["single a"])
        self.assertEqual([kept.lines, one.lines], [["filled a"], ["filled a", "single a"]])

    def test_with_none_at_all(self):
        none = Facts(SCHEMA, [])
        some = Facts(SCHEMA, ["filled a"])
        self.assertEqual([(none | some).lines, (some | none).lines, (none | none).lines], [["filled a"]] * 2 + [[]])

    def test_index_counts_both_lists_with_lines_that_stand_in_both(self):
        one = Facts(SCHEMA, ["filled a", "found a.k in b.k"])
        other = Facts(SCHEMA, ["found a.k in b.k", "filled a", "found b.k in c.k", "found c.k in a.k"][:3])
        self.assertEqual((one | other).lines, ["filled a", "found a.k in b.k", "found b.k in c.k"])
        third = Facts(SCHEMA, ["filled a", "found a.k in b.k", "single a", "found c.k in a.k"][::3])
        with self.assertRaises(BadFact) as caught:
            one | other | third
        self.assertEqual(caught.exception.index, 4)
        back = Facts(SCHEMA, ["filled a", "filled b", "found b.k in a.n", "single c"])
        with self.assertRaises(BadFact) as caught:
            one | back
        self.assertEqual(caught.exception.index, 4)
        self.assertEqual([one.lines[1:], back.lines[2:]], [["found a.k in b.k"], ["found b.k in a.n", "single c"]])

    def test_index_counts_a_line_once_that_stood_twice_in_one(self):
        one = Facts(SCHEMA, ["filled a", "filled a", "filled a", "found a.k in b.k"])
        with self.assertRaises(BadFact) as caught:
            one | Facts(SCHEMA, ["found b.k in a.k"])
        self.assertEqual(caught.exception.index, 2)

    def test_schema_of_the_left_one_with_tables_in_another_order(self):
        one = Facts(Schema("table a k n\ntable b k"), ["filled a"])
        other = Facts(Schema("table b k\ntable a k n"), ["single b"])
        both = one | other
        self.assertEqual(both.lines, ["filled a", "single b"])
        for facts, table in [(both, "a"), (other | one, "b")]:
            with self.assertRaises(BadTables) as caught:
                facts.broken({})
            self.assertEqual(caught.exception.table, table)

    def test_other_tables(self):
        one = Facts(Schema("table a k n\ntable b k"), ["filled a"])
        for text in ["table a k n", "table a n k\ntable b k", "table a k n\ntable b k\ntable c k"]:
            with self.assertRaises(OtherTables):
                one | Facts(Schema(text), ["filled a"])
            with self.assertRaises(OtherTables):
                Facts(Schema(text), []) | one

    def test_other_tables_ahead_of_bad_fact(self):
        one = Facts(SCHEMA, ["found a.k in b.k"])
        other = Facts(Schema("table a k n\ntable b k"), ["found b.k in a.k"])
        for pair in [(one, other), (other, one)]:
            with self.assertRaises(OtherTables):
                pair[0] | pair[1]
        strange = Facts(Schema("table e k"), ["filled e"])
        with self.assertRaises(OtherTables):
            one | strange


class BrokenTest(unittest.TestCase):
    def kept(self, line, **tables):
        full = {"a": [], "b": [], "c": [], "d": []}
        full.update(tables)
        told = Facts(SCHEMA, [line]).broken(full)
        self.assertIn(told, [None, line])
        return told is None

    def test_unique(self):
        self.assertTrue(self.kept("unique a.k"))
        self.assertTrue(self.kept("unique a.k", a=[(1, 5), (3, 5), (2, 5)]))
        self.assertFalse(self.kept("unique a.n", a=[(1, 5), (3, 6), (2, 5)]))
        self.assertFalse(self.kept("unique a.k", a=[(1, 5), (1, 5)]))
        self.assertTrue(self.kept("unique a.k", a=[(1, 5)], b=[(1,), (1,)]))

    def test_sorted(self):
        self.assertTrue(self.kept("sorted a.k"))
        self.assertTrue(self.kept("sorted a.k", a=[(-3, 9), (-3, 1), (0, 5), (10, 2)]))
        self.assertFalse(self.kept("sorted a.n", a=[(-3, 9), (-3, 1), (0, 5), (10, 12)]))
        self.assertFalse(self.kept("sorted b.k", b=[(1,), (2,), (1,)]))
        self.assertFalse(self.kept("sorted b.k", b=[(10 ** 900,), (10 ** 900 - 1,)]))
        self.assertFalse(self.kept("sorted b.k", b=[(2,), (10,), (9,)]))

    def test_single(self):
        self.assertTrue(self.kept("single a"))
        self.assertTrue(self.kept("single a", a=[(1, 1)], b=[(1,), (2,)]))
        self.assertFalse(self.kept("single a", a=[(1, 1), (1, 1)]))

    def test_filled(self):
        self.assertFalse(self.kept("filled a", b=[(1,)]))
        self.assertTrue(self.kept("filled a", a=[(1, 1)]))
        self.assertTrue(self.kept("filled a", a=[(1, 1), (2, 1)]))

    def test_found(self):
        self.assertTrue(self.kept("found a.n in b.k"))
        self.assertTrue(self.kept("found a.n in b.k", b=[(1,)]))
        self.assertFalse(self.kept("found a.n in b.k", a=[(1, 1)]))
        self.assertTrue(self.kept("found a.n in b.k", a=[(7, 1), (8, 2), (9, 1)], b=[(2,), (3,), (1,), (1,)]))
        self.assertFalse(self.kept("found a.k in b.k", a=[(7, 1), (8, 2), (9, 1)], b=[(7,), (8,), (1,)]))
        self.assertTrue(self.kept("found b.k in a.n", b=[(5,)], a=[(1, 4), (1, 5)]))
        self.assertFalse(self.kept("found b.k in a.n", b=[(5,), (6,)], a=[(5, 5), (6, 4)]))

    def test_the_first_broken_line(self):
        facts = Facts(SCHEMA, ["single b", "filled a", "unique b.k", "single b"])
        empty = {"c": [], "d": []}
        self.assertEqual(facts.broken({"a": [], "b": [], **empty}), "filled a")
        self.assertEqual(facts.broken({"a": [], "b": [(1,), (1,)], **empty}), "single b")
        self.assertIsNone(facts.broken({"a": [(1, 1)], "b": [], **empty}))
        self.assertIsNone(Facts(SCHEMA, []).broken({"a": [], "b": [], **empty}))

    def test_one_row_of_zeros_in_each_table_keeps_all_facts(self):
        lines = [f"{word} {place}" for word in ["unique", "sorted"] for place in ["a.k", "a.n", "b.k", "c.k", "d.k"]]
        lines += [f"{word} {table}" for word in ["single", "filled"] for table in "abcd"]
        lines += ["found a.n in b.k", "found b.k in c.k", "found c.k in d.k"]
        zeros = {"a": [(0, 0)], "b": [(0,)], "c": [(0,)], "d": [(0,)]}
        self.assertIsNone(Facts(SCHEMA, lines).broken(zeros))

    def test_bad_tables_ahead_of_all(self):
        facts = Facts(SCHEMA, ["filled a"])
        right = {"a": [], "b": [], "c": [], "d": []}
        for tables, table in [
            ({}, "a"),
            ({"a": [], "c": [], "d": []}, "b"),
            ({**right, "c": [(1, 2)]}, "c"),
            ({**right, "a": [(1,)]}, "a"),
            ({**right, "d": [(True,)]}, "d"),
            ({**right, "z": [], "e": []}, "e"),
        ]:
            with self.subTest(tables), self.assertRaises(BadTables) as caught:
                facts.broken(tables)
            self.assertEqual(caught.exception.table, table)
        with self.assertRaises(BadTables):
            Facts(SCHEMA, []).broken({**right, "e": []})

    def test_tables_stay_and_may_be_tuples(self):
        tables = {"d": [], "a": [(2, 1), (1, 1)], "b": [(1,)], "c": []}
        facts = Facts(SCHEMA, ["found a.n in b.k", "sorted a.k"])
        self.assertEqual(facts.broken(tables), "sorted a.k")
        self.assertEqual(list(tables.items()), [("d", []), ("a", [(2, 1), (1, 1)]), ("b", [(1,)]), ("c", [])])
        self.assertEqual(facts.broken({name: tuple(rows) for name, rows in tables.items()}), "sorted a.k")
        tables["a"].reverse()
        self.assertIsNone(facts.broken(tables))


if __name__ == "__main__":
    unittest.main()
