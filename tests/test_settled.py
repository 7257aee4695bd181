import unittest

from cases import PairCase, rows_in_all
from lookuploops.errors import NoLine, OtherTables
from lookuploops.facts import Facts
from lookuploops.programs import Program
from lookuploops.questions import failing, failures, settled
from naive import Naive
from sketches import tables_with

INDEXES = "index d of q in b by k keep first\nindex e of q in b by v keep last\n"


class NeedsTest(PairCase):
    def failing(self, text, line, many, *lines, values=(0, 1, 2)):
        """A line can fail for tables with so many rows, not with fewer, or not at all with None."""
        program, under = Program(self.head + text), self.facts(*lines)
        with self.subTest(text=text, under=lines):
            tables = failing(program, line, under=under)
            self.assertEqual(line in failures(program, under=under), many is not None)
            if many is None:
                self.assertIsNone(tables)
            else:
                self.check_tables(tables, program.schema, under)
                self.assertEqual(rows_in_all(tables), many)
                self.assertIn((line, False), Naive(program.text, tables).noted)
            for total in range(3 if many is None else min(many, 3)):
                for tables in tables_with(program.schema, values, total):
                    if under.broken(tables) is None:
                        self.assertNotIn((line, False), Naive(program.text, tables).noted)

    def test_outside_of_loops(self):
        self.failing(INDEXES + "need y from d at 1", 5, 0)
        self.failing(INDEXES + "need y from d at 1", 5, 1, "filled b")
        self.failing(INDEXES + "find x in a\nneed y from d at x.k", 6, 0, "found a.k in b.k")
        self.failing(INDEXES + "find x in a\nneed y from d at x.k", 6, None, "found a.k in b.k", "filled a")
        self.failing(INDEXES + "find x in a\nif some x\nneed y from d at x.k\nend", 7, None, "found a.k in b.k")
        self.failing(INDEXES + "find x in a\nif some x\nneed y from d at x.k\nend", 7, 1)
        self.failing(INDEXES + "find x in a\nif some x\nneed y from d at x.k\nend", 7, 2, "filled b", "found a.n in b.k")

    def test_in_loops(self):
        self.failing(INDEXES + "each x in a\nneed y from d at x.k\nend", 6, 1)
        self.failing(INDEXES + "each x in a\nneed y from d at x.k\nend", 6, None, "found a.k in b.k")
        self.failing(INDEXES + "each x in b\nneed y from d at x.k\nend", 6, None)
        self.failing(INDEXES + "each x in b\nneed y from e at x.v\nend", 6, None)
        self.failing(INDEXES + "each x in b\nneed y from e at x.k\nend", 6, 1)
        self.failing(INDEXES + "each x in a\neach z in b\nneed y from d at x.k\nend\nend", 7, 2)

    def test_behind_others(self):
        text = INDEXES + "each x in a\nneed y from d at x.k\nneed z from d at x.k\nneed u from e at y.v\nend"
        self.failing(text, 6, 1)
        self.failing(text, 7, None)
        self.failing(text, 8, None)
        text = INDEXES + "need y from d at 1\neach x in a\nneed z from d at x.k\nend"
        self.failing(text, 7, 2)
        self.failing(text, 7, 2, "unique a.k", "unique b.k")
        self.failing(text, 7, 2, "found b.k in a.n", "filled b")

    def test_a_condition_in_the_index(self):
        text = "index d of q in b by k keep first where 0 < q.v\neach x in a\nneed y from d at x.k\nend"
        self.failing(text, 5, 2, "found a.k in b.k")

    def test_where_it_is_asked_first(self):
        text = INDEXES + "each x in a\nif d has x.k\nneed y from d at x.k\nelse\nneed z from d at x.k\nend\nend"
        self.failing(text, 7, None)
        self.failing(text, 9, 1)
        self.failing(text, 9, None, "found a.k in b.k")

    def test_failures_ascend(self):
        text = INDEXES + "each x in a\nneed y from d at x.k\nneed z from e at x.k\nneed u from d at x.n\nneed v from d at x.k\nend"
        program = Program(self.head + text)
        self.assertEqual(failures(program), [6, 7, 8])
        self.assertEqual(failures(program, under=self.facts("found a.k in b.k")), [7, 8])
        self.assertEqual(failures(program, under=self.facts("found a.k in b.k", "found a.n in b.k")), [7])
        self.assertEqual(failures(Program(self.head + "put w")), [])
        self.assertEqual(failures(Program("table a k")), [])

    def test_lines_that_are_no_needs(self):
        program = Program(self.head + INDEXES + "find x in a\nget y from d at x.k\nneed z from d at x.k\nput w")
        for line in [0, -1, 1, 2, 3, 4, 5, 6, 8, 9, 100]:
            with self.assertRaises(NoLine) as caught:
                failing(program, line)
            self.assertEqual(caught.exception.line, line)
            with self.assertRaises(OtherTables):
                failing(program, line, under=Facts(Program("table c k").schema, []))


class SettledTest(PairCase):
    def settled(self, text, told, *lines, values=(0, 1, 2), most=3):
        """All small tables tell the same."""
        program, under = Program(self.head + text), self.facts(*lines)
        with self.subTest(text=text, under=lines):
            self.assertEqual(settled(program, under=under), told)
            noted = set()
            for total in range(most + 1):
                for tables in tables_with(program.schema, values, total):
                    if under.broken(tables) is None:
                        noted |= Naive(program.text, tables).noted
            for line, word in told:
                if word == "unreached":
                    self.assertNotIn((line, None), noted)
                else:
                    self.assertNotIn((line, word == "never"), noted)
                    self.assertIn((line, None), noted)

    def test_unreached(self):
        self.settled("next\nput w\nfind x in a\neach y in a\nput u\nend", [
            (4, "unreached"), (5, "unreached"), (6, "unreached"), (7, "unreached"),
        ])
        self.settled("if 1 = 1\nnext\nelse\nput w\nend\nput u", [(3, "always"), (6, "unreached"), (8, "unreached")])
        self.settled("each x in a\nnext\nput w\nend\nput u", [(5, "unreached")])
        self.settled("find x in a\nif some x\nif not some x\nput w\nend\nend", [(5, "never"), (6, "unreached")])

    def test_always(self):
        self.settled("find x in a", [(3, "always")], "filled a")
        self.settled("find x in a", [])
        self.settled("find x in a where x.k < 5", [], "filled a")
        self.settled("each x in a\nfind y in a where y.k = x.k\nlast z in a where not z.k < x.k\nend", [
            (4, "always"), (5, "always"),
        ])
        self.settled("each x in a\nfind y in b where y.k = x.k\nif some y\nend\nend", [(4, "always"), (5, "always")],
                     "found a.k in b.k")
        self.settled("each x in a\nif x is x and not x before x and x.k = x.k\nput w\nend\nend", [(4, "always")])
        text = "index d of q in b by k keep last\neach x in b\nget y from d at x.k\nneed z from d at x.k\nend"
        self.settled(text, [(5, "always"), (6, "always")])

    def test_never(self):
        self.settled("find x in a where x.k < x.k\nif some x\nput w\nend", [(3, "never"), (4, "never"), (5, "unreached")])
        self.settled("each x in a where x.k < x.k\nput w\nend", [(3, "never"), (4, "unreached")])
        self.settled("last x in a until x.k = x.k\nput w", [(3, "never")])
        self.settled("each x in a\nfind y in a where y before x\nif some y\nend\nend", [(4, "never"), (5, "never")], "single a")
        text = "index d of q in b by k keep last where q.v < q.v\neach x in a\nget y from d at x.k\nneed z from d at x.k\nput w\nend"
        self.settled(text, [(5, "never"), (6, "never"), (7, "unreached")])
        text = "index d of q in b by k keep all where q.v < q.v\neach x from d at 1\nput w\nend"
        self.settled(text, [(4, "never"), (5, "unreached")])

    def test_a_line_that_can_do_either(self):
        self.settled("find x in a\nif some x\nput w\nelse\nput u\nend\neach y in a where y.k = 1\nput v\nend", [])

    def test_loops_that_no_table_fills(self):
        self.settled("find y in a where y.n < y.n\neach x in b where x.k = y.k\nput w\nend", [
            (3, "never"), (4, "never"), (5, "unreached"),
        ])
        self.settled("each x in a\neach y in a where not x is y\nput w\nend\nend", [(4, "never"), (5, "unreached")], "single a")

    def test_rooms_between_values(self):
        for high, told in [(4, [(3, "never"), (4, "unreached")]), (5, []), (6, [])]:
            self.settled(f"each x in a where 3 < x.k and x.k < {high}\nput w\nend", told, values=(3, 4, 5), most=1)
        text = "each x in a where 3 < x.k and x.k < {}\nlast y in a where not x is y and 3 < y.k and y.k < {}\nend"
        self.settled(text.format(5, 5), [(4, "never")], "unique a.k", values=(3, 4, 5), most=2)
        self.settled(text.format(6, 6), [], "unique a.k", values=(3, 4, 5), most=2)

    def test_sorted_tables(self):
        text = "find x in b\nlast y in b\nif y.k < x.k\nput w\nend"
        self.settled(text, [])
        self.settled(text, [(5, "never"), (6, "unreached")], "sorted b.k")
        text = "find x in b\nlast y in b\nif some x and not x.k = y.k and not x.k < y.k\nput w\nend"
        self.settled(text, [])
        self.settled(text, [(5, "never"), (6, "unreached")], "sorted b.k")
        text = "each x in b\neach y in b where {}\nput w\nend\nend"
        for condition in ["x before y and y.v < x.v", "y before x and x.v < y.v"]:
            self.settled(text.format(condition), [])
            self.settled(text.format(condition), [(4, "never"), (5, "unreached")], "sorted b.v")

    def test_references_through_tables(self):
        self.head = "table a k\ntable b k up\ntable c k\n"
        text = "each x in a\nfind y in b where y.k = x.k\nfind z in c where z.k = y.up\nend"
        self.settled(text, [(5, "always"), (6, "always")], "found a.k in b.k", "found b.up in c.k", values=(0, 1), most=4)
        self.settled(text, [(5, "always")], "found a.k in b.k", values=(0, 1), most=3)
        self.settled(text, [], "found b.up in c.k", values=(0, 1), most=3)
        self.settled("find z in c", [(4, "always")], "found a.k in b.k", "found b.up in c.k", "filled a", values=(0, 1))

    def test_order_of_lines(self):
        told = settled(Program(self.head + "if 1 = 2\nput w\nelse\nif 2 = 2\nput u\nelse\nnext\nend\nend\nput v"))
        self.assertEqual(told, [(3, "never"), (4, "unreached"), (6, "always"), (9, "unreached")])

    def test_no_statements(self):
        self.assertEqual(settled(Program("table a k\nindex d of q in a by k keep all where 1 = 2")), [])


if __name__ == "__main__":
    unittest.main()
