import itertools
import random
import unittest

from lookuploops.programs import Program
from naive import Naive
from sketches import random_program, random_tables

HEAD = "table a k n\ntable b k v\n"
TABLES = {"a": [(1, 2), (2, 2), (3, 0)], "b": [(1, 0), (1, 3), (2, 9), (1, 7), (2, 4)]}


class RunsCase(unittest.TestCase):
    def run_of(self, text, tables=None):
        tables = TABLES if tables is None else tables
        program = Program(HEAD + text)
        naive = Naive(program.text, tables)
        self.assertEqual([program(tables), program.looks(tables)], [naive.result, naive.looks], text)
        return program(tables)

    def outside(self, text, tables=None):
        """What is put outside of all loops."""
        return self.run_of(text, tables).get((), [])

    def looks(self, text, tables=None):
        self.run_of(text, tables)
        return Program(HEAD + text).looks(TABLES if tables is None else tables)


class SearchesTest(RunsCase):
    def test_keys_that_stand_twice_or_not_at_all(self):
        self.assertEqual(self.outside("find y in b where y.k = 1\nput w y.v"), [("w", 0)])
        self.assertEqual(self.outside("last y in b where y.k = 1\nput w y.v"), [("w", 7)])
        self.assertEqual(self.outside("find y in b where y.k = 5\nput w y.v"), [("w", "none")])
        self.assertEqual(self.outside("last y in b where y.k = 5\nput w y.v"), [("w", "none")])

    def test_without_where(self):
        self.assertEqual(self.outside("find y in b\nlast z in b\nput w y.v z.v"), [("w", 0, 4)])
        empty = {"a": [], "b": []}
        self.assertEqual(self.outside("find y in b\nlast z in b\nput w y.v z.v", empty), [("w", "none", "none")])

    def test_until_stands_ahead_of_where(self):
        self.assertEqual(self.outside("find y in b where y.k = 2 until y.v = 9\nput w y.v"), [("w", "none")])
        self.assertEqual(self.outside("find y in b where y.k = 2 until y.v = 4\nput w y.v"), [("w", 9)])
        self.assertEqual(self.outside("find y in b until y.v = 0\nput w y.v"), [("w", "none")])
        self.assertEqual(self.outside("find y in b until y.v = 3\nput w y.v"), [("w", 0)])
        self.assertEqual(self.outside("last y in b until y.v = 7\nput w y.v"), [("w", 9)])
        self.assertEqual(self.outside("last y in b where y.k = 1 until y.v = 7\nput w y.v"), [("w", 3)])
        self.assertEqual(self.outside("last y in b where y.k = 1 until y.k = 1\nput w y.v"), [("w", "none")])
        self.assertEqual(self.outside("last y in b where y.k = 1 until y.v = 50\nput w y.v"), [("w", 7)])

    def test_over_an_index(self):
        head = "index d of q in b by k keep all where 0 < q.v\n"
        self.assertEqual(self.outside(head + "find y from d at 1\nlast z from d at 1\nput w y.v z.v"), [("w", 3, 7)])
        told = self.outside(head + "find y from d at 1 where 3 < y.v\nput w y.v")
        self.assertEqual(told, [("w", 7)])
        self.assertEqual(self.outside(head + "last y from d at 1 until y.v = 7\nput w y.v"), [("w", 3)])
        self.assertEqual(self.outside(head + "last y from d at 1 until y.v = 0\nput w y.v"), [("w", 7)])
        self.assertEqual(self.outside(head + "find y from d at 5\nput w y.v"), [("w", "none")])

    def test_own_row_in_where_and_until_is_the_row_that_is_looked_at(self):
        self.assertEqual(self.outside("find y in b where y.v = 9\nfind y in b where y.k = 1\nput w y.v"), [("w", 0)])
        self.assertEqual(self.outside("find y in b where some y and y is y\nput w y.v"), [("w", 0)])
        self.assertEqual(self.outside("find y in b until some y\nput w y.v"), [("w", "none")])
        told = self.outside("find y in b where y.v = 9\nlast z in b where z before y\nput w z.v")
        self.assertEqual(told, [("w", 3)])

    def test_at_reads_the_row_that_the_line_sets(self):
        head = "index d of q in b by k keep first\nindex e of q in b by k keep all\nfind y in b where y.v = 4\n"
        self.assertEqual(self.outside(head + "get y from d at y.k\nput w y.v"), [("w", 9)])
        self.assertEqual(self.outside(head + "need y from d at y.k\nput w y.v"), [("w", 9)])
        self.assertEqual(self.outside(head + "need y from d at y.v\nput w y.v"), [("missing", 4)])
        self.assertEqual(self.outside(head + "find y from e at y.k\nput w y.v"), [("w", 9)])
        self.assertEqual(self.outside(head + "find y from e at y.k where y.v = 4 and y.k = 2\nput w y.v"), [("w", 4)])

    def test_a_row_that_was_found_is_forgotten_if_none_is_found(self):
        self.assertEqual(self.outside("find y in b\nfind y in b where y.k = 8\nput w y.v"), [("w", "none")])


class IndexesTest(RunsCase):
    def test_first_last_and_all(self):
        for way, value in [("first", 0), ("last", 7)]:
            head = f"index d of q in b by k keep {way}\n"
            self.assertEqual(self.outside(head + "get y from d at 1\nput w y.v"), [("w", value)])
            self.assertEqual(self.outside(head + "get y from d at 9\nput w y.v"), [("w", "none")])
        told = self.run_of("index d of q in b by k keep all\neach y from d at 1\nput w y.v\nend")
        self.assertEqual(told, {(("b", 0),): [("w", 0)], (("b", 1),): [("w", 3)], (("b", 3),): [("w", 7)]})

    def test_first_and_last_of_the_rows_that_it_holds(self):
        for way, value in [("first", 3), ("last", 3)]:
            head = f"index d of q in b by k keep {way} where 0 < q.v and q.v < 7\n"
            self.assertEqual(self.outside(head + "get y from d at 1\nput w y.v"), [("w", value)])

    def test_by_another_column(self):
        head = "index d of q in b by v keep first where not q.v = 9\n"
        self.assertEqual(self.outside(head + "get y from d at 4\nget z from d at 9\nput w y.k z.k"), [("w", 2, "none")])

    def test_need_outside_of_loops_ends_the_run(self):
        head = "index d of q in b by k keep first\n"
        told = self.run_of(head + "put one\nneed y from d at 9\nput two\neach x in a\nput three\nend")
        self.assertEqual(told, {(): [("one",), ("missing", 9)]})
        self.assertEqual(self.outside(head + "need y from d at 2\nput w y.v"), [("w", 9)])

    def test_need_in_a_loop_ends_the_turn(self):
        text = "index d of q in b by k keep last\neach x in a\nput one\nneed y from d at x.k\nput two y.v\nend\nput o y.v"
        told = self.run_of(text)
        self.assertEqual(told[(("a", 0),)], [("one",), ("two", 7)])
        self.assertEqual(told[(("a", 2),)], [("one",), ("missing", 3)])
        self.assertEqual(told[()], [("o", "none")])

    def test_need_at_none(self):
        head = "index d of q in b by k keep first\nfind y in b where y.k = 8\n"
        self.assertEqual(self.outside(head + "need z from d at y.v\nput w"), [("missing", "none")])
        self.assertEqual(self.outside(head + "get z from d at y.v\nput w z.v"), [("w", "none")])
        told = self.outside(head + "if d has y.v\nput yes\nelse\nput no\nend\nif not d has y.v\nput no\nend")
        self.assertEqual(told, [("no",), ("no",)])

    def test_loop_and_search_over_an_index_at_none(self):
        head = "index d of q in b by k keep all\nfind y in b where y.k = 8\n"
        self.assertEqual(self.run_of(head + "each z from d at y.k\nput w\nend\nfind u from d at y.k\nput v u.k"),
                         {(): [("v", "none")]})


class ConditionsTest(RunsCase):
    def holds(self, condition, head=""):
        return self.outside(head + f"if {condition}\nput yes\nend") == [("yes",)]

    def test_rows_that_are_none_in_all_conditions(self):
        head = "index d of q in b by k keep all\nfind n in b where n.k = 8\nfind m in b where m.k = 9\nfind y in b\n"
        for condition in [
            "n.k = 8", "n.k = n.k", "n.k < 9", "0 < n.k", "n.k = m.k", "y.k = n.k", "y.k < n.k", "n.k < y.k", "some n",
            "n is n", "n is m", "n is y", "y is n", "n before y", "y before n", "n before n", "d has n.k",
        ]:
            self.assertFalse(self.holds(condition, head), condition)
            self.assertTrue(self.holds("not " + condition, head), condition)

    def test_rows_that_are_there(self):
        head = "index d of q in b by k keep all\nfind y in b\nlast z in b\nfind u in b where u.k = 1\n"
        for condition in [
            "y.k = 1", "y.k = u.k", "1 < z.k", "y.k < z.k", "some y", "y is u", "y is y", "y before z", "d has z.k",
            "d has 2", "1 < 2", "-3 < -2", "0 = 0", "not y is z", "not z before y", "not y before u", "not d has 3",
            "not 2 < 2", "not 1 = 2", "some y and some z and y before z and not z.k = 1",
        ]:
            self.assertTrue(self.holds(condition, head), condition)
        for condition in ["y is z", "z before y", "y before y", "d has 3", "2 < 2", "some y and y is z", "y is z and some y"]:
            self.assertFalse(self.holds(condition, head), condition)

    def test_same_integers_are_not_the_same_row(self):
        tables = {"a": [], "b": [(1, 1), (1, 1)]}
        text = "find y in b\nlast z in b\nif y is z\nput same\nelse\nput other\nend\nif y before z\nput ahead\nend"
        self.assertEqual(self.outside(text, tables), [("other",), ("ahead",)])

    def test_if_and_else(self):
        self.assertEqual(self.outside("if 1 = 1\nput yes\nelse\nput no\nend\nput on"), [("yes",), ("on",)])
        self.assertEqual(self.outside("if 1 = 2\nput yes\nelse\nput no\nend\nput on"), [("no",), ("on",)])
        self.assertEqual(self.outside("if 1 = 2\nput yes\nend\nput on"), [("on",)])
        self.assertEqual(self.outside("if 1 = 2\nelse\nend\nput on"), [("on",)])
        self.assertEqual(self.outside("if 1 = 1\nif 1 = 2\nput one\nelse\nput two\nend\nelse\nput three\nend"), [("two",)])


class LoopsTest(RunsCase):
    def test_paths(self):
        told = self.run_of("put out\neach x in a where x.n = 2\nput x x.k\neach y in b where y.k = x.k\nput y y.v\nend\nend")
        self.assertEqual(told, {
            (): [("out",)], (("a", 0),): [("x", 1)], (("a", 1),): [("x", 2)],
            (("a", 0), ("b", 0)): [("y", 0)], (("a", 0), ("b", 1)): [("y", 3)], (("a", 0), ("b", 3)): [("y", 7)],
            (("a", 1), ("b", 2)): [("y", 9)], (("a", 1), ("b", 4)): [("y", 4)],
        })

    def test_place_of_a_loop_over_an_index_is_that_in_the_table(self):
        told = self.run_of("index d of q in b by k keep all where 0 < q.v\neach y from d at 2 where y.v < 9\nput w\nend")
        self.assertEqual(told, {(("b", 4),): [("w",)]})

    def test_two_loops_over_one_table(self):
        told = self.run_of("each x in a\nput one x.k\nend\neach y in a where y.k < 2\nput two\nend")
        self.assertEqual(told[(("a", 0),)], [("one", 1), ("two",)])
        self.assertEqual(told[(("a", 2),)], [("one", 3)])

    def test_loops_nested_the_other_way_round(self):
        tables = {"a": [(1, 1)], "b": [(1, 1)]}
        one = self.run_of("each x in a\neach y in b\nput w\nend\nend", tables)
        other = self.run_of("each y in b\neach x in a\nput w\nend\nend", tables)
        self.assertEqual([list(one), list(other)], [[(("a", 0), ("b", 0))], [(("b", 0), ("a", 0))]])

    def test_a_loop_nested_over_its_own_table(self):
        told = self.run_of("each x in a\neach y in a where x before y\nput w\nend\nend")
        self.assertEqual(sorted(told), [(("a", 0), ("a", 1)), (("a", 0), ("a", 2)), (("a", 1), ("a", 2))])

    def test_three_nested_loops(self):
        told = self.run_of("each x in a\neach y in a\neach z in a\nif x is y and not y is z\nput w\nend\nend\nend\nend")
        self.assertEqual(len(told), 6)
        self.assertIn((("a", 1), ("a", 1), ("a", 2)), told)

    def test_names_are_forgotten_at_the_end_of_a_turn(self):
        text = "find y in b\neach x in a\nif x.k = 1\nlast y in b\nfind z in b\nend\nput w y.v z.v\nend\nput o y.v z.v x.k"
        told = self.run_of(text)
        self.assertEqual(told[(("a", 0),)], [("w", 4, 0)])
        self.assertEqual(told[(("a", 1),)], [("w", 0, "none")])
        self.assertEqual(told[()], [("o", 0, "none", "none")])

    def test_names_are_forgotten_where_next_ends_a_turn(self):
        told = self.run_of("find y in b\neach x in a\nlast y in b\nnext\nend\nput o y.v")
        self.assertEqual(told, {(): [("o", 0)]})

    def test_a_name_that_is_set_in_an_inner_block_and_read_below(self):
        text = "if {}\nfind y in b\nend\nput w y.v"
        self.assertEqual(self.outside(text.format("1 = 1")), [("w", 0)])
        self.assertEqual(self.outside(text.format("1 = 2")), [("w", "none")])
        self.assertEqual(self.outside("each x in a\nfind y in b\nend\nput w y.v x.k"), [("w", "none", "none")])

    def test_next(self):
        self.assertEqual(self.run_of("put one\nnext\nput two"), {(): [("one",)]})
        self.assertEqual(self.run_of("put one\nif 1 = 1\nnext\nend\nput two"), {(): [("one",)]})
        told = self.run_of("each x in a\nput one\nif x.k = 2\nput two\nnext\nend\nput three\nend\nput four")
        self.assertEqual(told[(("a", 0),)], [("one",), ("three",)])
        self.assertEqual(told[(("a", 1),)], [("one",), ("two",)])
        self.assertEqual(told[()], [("four",)])

    def test_next_ends_the_turn_of_the_innermost_loop(self):
        told = self.run_of("each x in a\neach y in a\nnext\nput one\nend\nput two\nend")
        self.assertEqual(told, {(("a", place),): [("two",)] for place in range(3)})

    def test_next_in_a_search_of_rows_that_a_loop_leaves_out(self):
        self.assertEqual(self.run_of("each x in a where x.k = 9\nput w\nend\neach y in b where 1 = 2\nnext\nend"), {})

    def test_paths_where_nothing_was_put_are_left_out(self):
        self.assertEqual(self.run_of("each x in a\nif x.k = 2\nput w\nend\nend"), {(("a", 1),): [("w",)]})
        self.assertEqual(self.run_of("find x in a"), {})

    def test_put(self):
        told = self.outside("put w\nput w 5\nput w -1 0 2\nfind y in b\nput y y.k y.v y.k")
        self.assertEqual(told, [("w",), ("w", 5), ("w", -1, 0, 2), ("y", 1, 0, 1)])

    def test_no_statements(self):
        self.assertEqual([Program("table a k")({"a": [(1,)]}), Program("table a k").looks({"a": [(1,)]})], [{}, 0])


class LooksTest(RunsCase):
    def test_an_index_counts_the_rows_of_its_table(self):
        self.assertEqual(self.looks("index d of q in b by k keep first"), 5)
        self.assertEqual(self.looks("index d of q in b by k keep all where 1 = 2\nindex e of q in a by k keep all"), 8)

    def test_loops_over_tables(self):
        self.assertEqual(self.looks("each x in a\nend"), 3)
        self.assertEqual(self.looks("each x in a where 1 = 2\nend"), 3)
        self.assertEqual(self.looks("each x in a where x.k = 1\neach y in b\nend\nend"), 8)

    def test_searches_over_tables(self):
        self.assertEqual(self.looks("find y in b"), 1)
        self.assertEqual(self.looks("find y in b where y.k = 2"), 3)
        self.assertEqual(self.looks("find y in b where y.k = 9"), 5)
        self.assertEqual(self.looks("find y in b where y.k = 9 until y.v = 7"), 4)
        self.assertEqual(self.looks("last y in b"), 5)
        self.assertEqual(self.looks("last y in b until y.v = 3"), 2)

    def test_loops_and_searches_over_indexes(self):
        head = "index d of q in b by k keep all where 0 < q.v\n"
        self.assertEqual(self.looks(head + "each y from d at 1\nend"), 5 + 1 + 2)
        self.assertEqual(self.looks(head + "each y from d at 9\nend"), 5 + 1)
        self.assertEqual(self.looks(head + "find y from d at 1"), 5 + 1 + 1)
        self.assertEqual(self.looks(head + "find y from d at 2 where y.v = 4"), 5 + 1 + 2)
        self.assertEqual(self.looks(head + "last y from d at 1"), 5 + 1 + 2)
        self.assertEqual(self.looks(head + "last y from d at 1 until y.v = 3"), 5 + 1 + 1)
        self.assertEqual(self.looks(head + "find n in b where n.k = 9\nfind y from d at n.k"), 5 + 5 + 1)

    def test_look_ups(self):
        head = "index d of q in b by k keep last\n"
        self.assertEqual(self.looks(head + "get y from d at 1\nget y from d at 9"), 7)
        self.assertEqual(self.looks(head + "need y from d at 1\nneed y from d at 9\nneed y from d at 1"), 7)
        self.assertEqual(self.looks(head + "if d has 1 and d has 9 and d has 1\nend"), 7)
        self.assertEqual(self.looks(head + "if not d has 1 and d has 1\nend"), 6)
        self.assertEqual(self.looks(head + "if 1 = 2 and d has 1\nend"), 5)
        self.assertEqual(self.looks(head + "if d has 1 and 1 = 1\nend"), 6)

    def test_nothing_is_looked_at_behind_the_end(self):
        self.assertEqual(self.looks("next\nfind y in b"), 0)
        self.assertEqual(self.looks("each x in a\nif x.k = 2\nnext\nend\nfind y in b\nend"), 5)


class RandomTest(unittest.TestCase):
    def test_many_programs_run_as_they_are_read_another_way(self):
        for seed in range(300):
            source = random.Random(seed)
            text = random_program(source)
            program = Program(text)
            for tables in itertools.islice(random_tables(source, program.schema), 8):
                naive = Naive(text, tables)
                with self.subTest(text=text, tables=tables):
                    self.assertEqual(program(tables), naive.result)
                    self.assertEqual(program.looks(tables), naive.looks)


if __name__ == "__main__":
    unittest.main()
