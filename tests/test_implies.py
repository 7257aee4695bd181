import itertools
import unittest

import small
from lookuploops.errors import BadFact
from lookuploops.facts import Facts
from lookuploops.schema import Schema

SCHEMA = Schema("table a k n\ntable b k v\ntable c k\ntable d k")


class ImpliesTest(unittest.TestCase):
    def implied(self, lines, asked):
        facts = Facts(SCHEMA, lines)
        told = facts.implies(asked)
        self.assertIsInstance(told, bool)
        self.assertEqual(facts.lines, list(lines))
        return told

    def yes(self, lines, *asked):
        for line in asked:
            with self.subTest(lines=lines, asked=line):
                self.assertTrue(self.implied(lines, line))

    def no(self, lines, *asked):
        for line in asked:
            with self.subTest(lines=lines, asked=line):
                self.assertFalse(self.implied(lines, line))

    def test_each_line_implies_itself(self):
        for line in ["unique a.k", "sorted a.n", "single a", "filled a", "found a.n in b.k"]:
            self.yes([line], line)

    def test_no_facts_imply_only_that_a_column_is_found_in_itself(self):
        self.no([], "unique a.k", "sorted a.k", "single a", "filled a", "found a.k in b.k", "found a.k in a.n")
        self.yes([], "found a.k in a.k", "found c.k in c.k")

    def test_single(self):
        self.yes(["single a"], "unique a.k", "unique a.n", "sorted a.k", "sorted a.n")
        self.no(["single a"], "filled a", "found a.k in a.n", "single b", "unique b.k", "found a.k in b.k")

    def test_unique_and_sorted_tell_nothing_of_each_other(self):
        self.no(["unique a.k"], "sorted a.k", "unique a.n", "single a", "filled a")
        self.no(["sorted a.k"], "unique a.k", "sorted a.n", "single a", "filled a")
        self.no(["unique a.k", "sorted a.k", "sorted a.n"], "single a", "unique a.n")

    def test_filled_goes_along_found(self):
        self.yes(["filled a", "found a.n in b.k", "found b.v in c.k"], "filled b", "filled c")
        self.yes(["found b.v in c.k", "found a.n in b.k", "filled a"], "filled b", "filled c")
        self.no(["filled b", "found a.n in b.k", "found b.v in c.k"], "filled a", "filled d")

    def test_chains_of_found(self):
        self.yes(["found a.n in b.k", "found b.k in c.k", "found c.k in d.k"], "found a.n in c.k", "found a.n in d.k",
                 "found b.k in d.k")
        self.no(["found a.n in b.k", "found b.k in c.k", "found c.k in d.k"], "found a.k in d.k", "found a.n in b.v",
                "found c.k in b.k", "found d.k in a.n", "found a.n in a.k")
        self.no(["found a.n in b.k", "found b.v in c.k"], "found a.n in c.k")

    def test_found_in_a_single_table_makes_a_column_constant(self):
        self.yes(["found a.k in b.v", "single b"], "sorted a.k")
        self.no(["found a.k in b.v", "single b"], "unique a.k", "single a", "sorted a.n", "unique a.n", "filled b")
        self.yes(["found a.k in b.v", "found b.v in c.k", "single c"], "sorted a.k", "sorted b.v")
        self.no(["found a.k in b.v", "found b.k in c.k", "single c"], "sorted a.k", "sorted b.v")

    def test_constant_and_unique_is_single(self):
        self.yes(["found a.k in c.k", "single c", "unique a.k"], "single a", "unique a.n", "sorted a.n")
        self.no(["found a.k in c.k", "single c", "unique a.n"], "single a", "unique a.k", "sorted a.n")
        self.no(["found a.k in c.k", "single a", "unique c.k"], "single c")

    def test_single_goes_on_over_several_tables_in_any_order_of_lines(self):
        lines = ["found a.n in b.k", "found b.v in c.k", "found c.k in d.k", "unique a.n", "unique b.v", "single d"]
        for some in [lines, lines[::-1], lines[3:] + lines[:3], lines[:3] + ["unique b.v", "single d", "unique a.n"]]:
            self.yes(some, "single b", "single a", "sorted c.k", "sorted b.k", "unique a.k", "unique b.k")
            self.no(some, "single c", "unique c.k", "filled d")
        long = [*lines[:3], "unique a.n", "unique b.v", "unique c.k", "single d"]
        for some in itertools.permutations(long[3:]):
            self.yes(long[:3] + list(some), "single a", "single b", "single c")
        self.no(lines[:4] + lines[5:], "single a", "single b", "sorted a.n", "sorted b.k")

    def test_found_turns_round_where_both_must_have_the_one_value(self):
        self.yes(["found b.k in c.k", "single c", "filled b"], "found c.k in b.k")
        self.no(["found b.k in c.k", "single c"], "found c.k in b.k")
        self.no(["found b.k in c.k", "filled b"], "found c.k in b.k")
        self.no(["found b.k in c.k", "single b", "filled b"], "found c.k in b.k")
        self.no(["found b.k in c.k", "single c", "filled b"], "found c.k in b.v")
        self.no(["found b.k in c.k", "single c", "filled c"], "found c.k in b.k")

    def test_found_turns_round_in_a_table_that_is_filled_by_another(self):
        self.yes(["found b.k in c.k", "single c", "filled a", "found a.k in b.v"], "found c.k in b.k")
        self.no(["found b.k in c.k", "single c", "found a.k in b.v"], "found c.k in b.k")

    def test_found_turns_round_where_the_asked_row_itself_fills_the_table(self):
        self.yes(["found a.k in c.k", "found a.n in c.k", "single c"], "found a.k in a.n", "found a.n in a.k")
        self.no(["found a.k in c.k", "found a.n in c.k"], "found a.k in a.n", "found a.n in a.k")
        self.no(["found a.k in c.k", "found a.n in d.k", "single c", "single d"], "found a.k in a.n")
        self.yes(["found a.k in c.k", "found a.n in b.v", "found b.v in c.k", "single c"], "found a.k in b.v",
                 "found a.k in a.n", "found a.n in a.k")
        self.no(["found a.k in c.k", "found b.v in c.k", "single c"], "found a.k in b.v")

    def test_two_tables_found_in_one_value(self):
        self.yes(["found a.k in c.k", "found b.k in c.k", "found b.k in d.k", "single c", "filled b"],
                 "found a.k in b.k", "found a.k in d.k", "found c.k in d.k", "found c.k in b.k")
        self.no(["found a.k in c.k", "found b.k in c.k", "found b.k in d.k", "single c", "filled b"],
                "found b.k in a.k", "found c.k in a.k", "found d.k in c.k", "found a.n in b.k", "found a.k in b.v")
        self.no(["found a.k in c.k", "found b.k in c.k", "found b.k in d.k", "single c"],
                "found a.k in b.k", "found a.k in d.k")

    def test_constants_without_a_single_table_next_to_them(self):
        self.yes(["found a.k in b.k", "found b.k in c.k", "single c", "filled a"], "found b.k in a.k",
                 "found c.k in a.k", "found c.k in b.k")
        self.yes(["found a.k in b.k", "found b.v in c.k", "single c", "filled a", "unique b.v"], "found b.k in a.k")
        self.no(["found a.k in b.k", "found b.v in c.k", "single c", "filled a", "unique b.k"], "found b.k in a.k")

    def test_lines_that_lead_back_may_be_asked(self):
        self.no(["found a.k in b.k"], "found b.k in a.k", "found b.v in a.n", "found a.k in a.n")
        self.yes(["found a.k in b.k"], "found a.k in a.k", "found b.v in b.v")

    def test_denied_though_few_rows_or_values_do_not_show_it(self):
        self.no(["found b.k in a.k", "found b.k in a.n", "filled b", "unique a.k"], "found a.n in a.k",
                "found a.k in a.n")
        self.no(["found b.k in a.k", "found b.k in a.n", "filled b", "unique a.k", "unique a.n"], "found a.n in a.k")
        self.no(["unique a.k", "unique b.k", "found a.k in b.k", "filled a"], "found b.k in a.k", "unique b.v")
        self.no(["found a.k in b.k", "found a.n in b.k", "unique b.k", "unique a.k", "filled a"], "found a.n in a.k",
                "found b.k in a.k")

    def test_wrong_lines(self):
        facts = Facts(SCHEMA, ["found a.k in b.k", "single b"])
        for line in [
            "", " ", "single", "single e", "single a.k", "unique a", "unique a.v", "sorted e.k", "filled a ",
            " filled a", "filled  a", "found a.k in b.n", "found a.v in b.k", "found e.k in b.k", "found a.k in e.k",
            "found a.k b.k", "found a.k in", "found a in a", "found a.k of b.k", "empty a", "found a.k in b.k c.k",
            "found a.k  in b.k", "filled a\n", "unique a.k.n", "unique a.K",
        ]:
            with self.subTest(line), self.assertRaises(BadFact) as caught:
                facts.implies(line)
            self.assertEqual(caught.exception.index, 0)
        self.assertEqual(facts.lines, ["found a.k in b.k", "single b"])

    def test_what_was_asked_is_not_remembered(self):
        facts = Facts(SCHEMA, ["single a"])
        for _ in range(2):
            self.assertIs(facts.implies("found b.k in a.k"), False)
            self.assertIs(facts.implies("unique a.k"), True)
            self.assertEqual(facts.lines, ["single a"])


class AllSmallTablesTest(unittest.TestCase):
    """What is implied holds on all small tables, and what is not is broken by some that keep the facts."""

    def compare(self, text, values, most, plain, founds):
        schema = Schema(text)
        plain_lines = small.plain_lines(schema)
        found_lines = small.found_lines(schema)
        kept, everything = small.masks(schema, plain_lines + found_lines, values, most)
        for lines in self.choices(plain_lines, plain, found_lines, founds):
            try:
                facts = Facts(schema, lines)
            except BadFact:
                continue
            left = everything
            for line in lines:
                left &= kept[line]
            wrong = [line for line in kept if facts.implies(line) != (left & ~kept[line] == 0)]
            self.assertEqual(wrong, [], lines)

    def choices(self, plain_lines, plain, found_lines, founds):
        apart = [line for line in found_lines if line.split(" ")[1][0] != line.split(" ")[3][0]]
        for many in range(founds + 1):
            for some in itertools.combinations(apart, many):
                for others in range(plain + 1):
                    for more in itertools.combinations(plain_lines, others):
                        yield [*more, *some]

    def test_two_tables(self):
        self.compare("table a k n\ntable b k", (0, 1, 2), {"a": 2, "b": 3}, 4, 2)

    def test_three_tables(self):
        self.compare("table a k\ntable b k\ntable c k", (0, 1, 2), {"a": 2, "b": 2, "c": 2}, 3, 3)


if __name__ == "__main__":
    unittest.main()
