import unittest

from lookuploops.errors import BadProgram, NoKey, OtherTables
from lookuploops.exchanges import by_kept, by_rows, idle_conditions, idle_lines, thinned, ways
from lookuploops.facts import Facts
from lookuploops.programs import Program
from lookuploops.questions import alike
from sketches import tables_with

HEAD = "table a k n\ntable b k v\n"
LOOP = HEAD + "each x in a\n{}\nput got y.k y.v\nend"


def program(text):
    return Program(HEAD + text)


def facts(*lines):
    return Facts(Program(HEAD.rstrip("\n")).schema, lines)


class ExamplesTest(unittest.TestCase):
    def test_examples_of_the_document(self):
        own = Program(HEAD + "each x in a\nfind y in b where y.k = x.k and not y.v < 0\nput got y.v\nend")
        told = [ways(own, 4), ways(own, 4, under=Facts(own.schema, ["unique b.k"]))]
        self.assertEqual(told, [["find", "get first"], ["find", "last", "get first", "get last"]])
        changed = by_rows(own, 4)
        tables = {"a": [(1, 0)], "b": [(1, 5), (1, 6), (2, 7)]}
        self.assertEqual([alike(own, changed), own.looks(tables), changed.looks(tables)], [True, 2, 6])
        early = Program(HEAD + "each x in a\nfind y in b where y.k = x.k until x.k < y.k\nput got y.v\nend")
        rising = Facts(early.schema, ["sorted b.k"])
        told = [idle_conditions(early), idle_conditions(early, under=rising), thinned(early, under=rising)[4]]
        self.assertEqual(told, [[], [(4, 2)], "find y in b where y.k = x.k"])
        kept = by_kept(own, 4, keep="last")
        self.assertEqual([alike(own, kept), alike(own, kept, under=facts("unique b.k"))], [False, True])
        text = "index d of q in b by k keep all\neach x in a\nfind y in b\nput got x.n\nend"
        self.assertEqual(idle_lines(program(text)), [3, 5])
        with self.assertRaises(NoKey) as caught:
            by_rows(early, 4)
        self.assertEqual(caught.exception.line, 4)

    def test_functions_are_defined_in_the_module(self):
        for function in (by_rows, by_kept, ways, idle_conditions, idle_lines, thinned):
            self.assertEqual(function.__module__, "lookuploops.exchanges")


class KeysTest(unittest.TestCase):
    def no_key(self, ask, text, line):
        with self.subTest(ask=ask.__name__, text=text, line=line), self.assertRaises(NoKey) as caught:
            ask(Program(text), line)
        if hasattr(caught, "exception"):
            self.assertEqual(caught.exception.line, line)

    def changed(self, ask, line, column, term, others, **options):
        """The changed program, whose two new lines go by the column and the term with the other conditions."""
        own = Program(LOOP.format(line))
        other = ask(own, 4, **options)
        self.assertEqual(list(other)[:2] + list(other)[3:4] + list(other)[5:], list(own)[:3] + list(own)[4:])
        index, new = other[3].split(" "), other[5].split(" ")
        self.assertEqual(index[:1] + index[2:3] + index[4:8], ["index", "of", "in", "b", "by", column])
        name, row = index[1], index[3]
        self.assertNotIn(name, ["a", "b", "x", "y", row])
        self.assertNotIn(row, ["a", "b"])
        self.assertEqual(new[1:2] + new[2:6], ["y", "from", name, "at", term])
        behind = " ".join(index[10:] if ask is by_kept else new[6:])
        self.assertEqual(behind, others.replace("y.", row + ".") if ask is by_kept else others)
        self.assertEqual(index[8:10], ["keep", options.get("keep", "first") if ask is by_kept else "all"])
        self.assertEqual(new[0], "get" if ask is by_kept else line.split(" ")[0])
        return own, other

    def test_lines_with_a_key_condition(self):
        for word in ["find", "last"]:
            for condition, column, term in [
                ("y.k = x.k", "k", "x.k"), ("x.n = y.v", "v", "x.n"), ("y.v = 3", "v", "3"), ("-7 = y.k", "k", "-7"),
            ]:
                line = f"{word} y in b where {condition}"
                own, other = self.changed(by_rows, line, column, term, "")
                self.assertTrue(alike(own, other))
                for keep in ["first", "last"]:
                    own, other = self.changed(by_kept, line, column, term, "", keep=keep)
                    self.assertEqual(alike(own, other), (word == "find") == (keep == "first"))
                    self.assertTrue(alike(own, other, under=facts("unique b." + column)))

    def test_first_is_kept_if_nothing_is_said(self):
        self.changed(by_kept, "find y in b where y.k = x.k", "k", "x.k", "")

    def test_other_conditions_in_their_order(self):
        line = "find y in b where 0 < y.v and not y.k = y.v and y.k = x.k and y.v < 4"
        others = "where 0 < y.v and not y.k = y.v and y.v < 4"
        own, other = self.changed(by_rows, line, "k", "x.k", others)
        self.assertTrue(alike(own, other))
        own, other = self.changed(by_kept, line, "k", "x.k", others)
        self.assertTrue(alike(own, other))
        own, other = self.changed(by_kept, line, "k", "x.k", others, keep="last")
        self.assertFalse(alike(own, other))

    def test_the_first_key_condition_counts(self):
        line = "find y in b where not y.v = 1 and y.k = y.v and y.v = x.n and y.k = 3"
        self.changed(by_rows, line, "v", "x.n", "where not y.v = 1 and y.k = y.v and y.k = 3")
        self.changed(by_kept, line, "v", "x.n", "where not y.v = 1 and y.k = y.v and y.k = 3")

    def test_conditions_that_a_table_line_alone_may_have(self):
        for other in ["some x", "not some y", "y is y", "x.k = 1", "y.v < x.n", "not x.n < 3", "y.v = x.n", "y.k = x.n"]:
            line = f"find y in b where y.k = x.k and {other}"
            own, changed = self.changed(by_rows, line, "k", "x.k", "where " + other)
            self.assertTrue(alike(own, changed))
            self.no_key(by_kept, LOOP.format(line), 4)
            with self.assertRaises(NoKey):
                by_kept(own, 4, keep="last")

    def test_conditions_that_an_index_may_have(self):
        for other in ["y.v < 0", "not 3 = y.v", "y.k < y.v", "1 < 2", "y.k = y.k", "not y.v = y.k", "y.v = 3"]:
            line = f"find y in b where y.k = x.k and {other}"
            own, changed = self.changed(by_kept, line, "k", "x.k", "where " + other)
            self.assertTrue(alike(own, changed))

    def test_lines_without_a_key_condition(self):
        for line in [
            "find y in b", "find y in b where not y.k = x.k", "find y in b where y.k < x.k", "find y in b where y.k = y.v",
            "find y in b where x.k = x.n", "find y in b where x.k = 3", "find y in b where 3 = 4", "find y in b where some x",
            "find y in b where y is y", "find y in b until y.k = x.k", "find y in b where y.k = x.k until y.v = 3",
            "last y in b where y.k = x.k until y.v = 3", "last y in b where x.k < y.k", "find y in b where y.k = y.k",
        ]:
            self.no_key(by_rows, LOOP.format(line), 4)
            self.no_key(by_kept, LOOP.format(line), 4)

    def test_lines_of_other_kinds(self):
        text = (
            HEAD + "index d of q in b by k keep all where q.k = 1\nindex e of q in b by k keep first\n"
            "each x in a where x.k = 1\nfind y from d at x.k where y.v = 1\nget y from e at x.k\nneed y from e at 1\n"
            "if y.k = 1\nput got y.v\nelse\nnext\nend\nend"
        )
        for ask in (by_rows, by_kept, ways):
            for line in [-1, 0, 1, 2, 3, 4, 5, 7, 8, 9, 10, 11, 12, 13, 14, 15, 16, 99]:
                self.no_key(ask, text, line)
        for ask in (by_rows, by_kept):
            self.no_key(ask, text, 6)

    def test_a_row_that_is_none_ahead_of_the_line(self):
        text = "find z in a where z.k = 9\nfind y in b where y.k = z.n\nput got y.v"
        self.assertTrue(alike(program(text), by_rows(program(text), 4)))

    def test_the_row_was_set_before(self):
        text = "last y in b\nfind y in b where y.k = 3\nput got y.v"
        self.assertTrue(alike(program(text), by_rows(program(text), 4)))
        self.assertTrue(alike(program(text), by_kept(program(text), 4)))

    def test_the_last_index_line(self):
        text = (
            "index d of q in b by k keep all\nindex e of r in a by n keep last\neach x in a\n"
            "find y in b where y.k = x.k\nput got y.v\nend"
        )
        changed = by_rows(program(text), 6)
        self.assertEqual([changed[3], changed[4], changed[6]], text.split("\n")[:3])
        self.assertTrue(changed[5].startswith("index "))
        self.assertNotIn(changed[5].split(" ")[1], ["d", "e", "q", "r", "a", "b", "x", "y"])
        self.assertTrue(alike(program(text), changed))

    def test_names_that_are_taken(self):
        letters = "abcdefghijklmnopqrstuvwxyz"
        text = "table a k\ntable b k\n" + "\n".join(f"find {name} in b where {name}.k = 1" for name in letters[2:])
        own = Program(text + "\nput w z.k c.k")
        changed = by_rows(own, 5)
        self.assertNotIn(changed[3].split(" ")[1], letters)
        self.assertTrue(alike(own, changed))

    def test_programs_that_cannot_be_read(self):
        indexes = "".join(f"index d{letter} of q in b by k keep all\n" for letter in "abcd")
        full = program(indexes + "find y in b where y.k = 1\nput got y.v")
        long = program("find y in b where y.k = 1\n" + "\n".join(["put got y.v"] * 37))
        both = program(indexes + "find y in b where y.k = 1\n" + "\n".join(["put got y.v"] * 33))
        for own, line, wrong in [(full, 7, 7), (long, 3, 41), (both, 7, 7)]:
            for ask in (by_rows, by_kept):
                with self.assertRaises(BadProgram) as caught:
                    ask(own, line)
                self.assertEqual(caught.exception.line, wrong)
            self.assertEqual(ways(own, line), ["find"])
            self.assertEqual(ways(own, line, under=facts("unique b.k")), ["find", "last"])

    def test_no_key_comes_ahead_of_a_program_that_cannot_be_read(self):
        indexes = "".join(f"index d{letter} of q in b by k keep all\n" for letter in "abcd")
        self.no_key(by_rows, HEAD + indexes + "find y in b where y.k < 1", 7)
        self.no_key(by_kept, HEAD + indexes + "find y in b where y.k = 1 and some y", 7)


class WaysTest(unittest.TestCase):
    def ways(self, line, *lines, indexes=""):
        own = Program(LOOP.format(line).replace("each", indexes + "each"))
        return ways(own, 4 + indexes.count("\n"), under=facts(*lines))

    def test_find_and_last(self):
        self.assertEqual(self.ways("find y in b where y.k = x.k"), ["find", "get first"])
        self.assertEqual(self.ways("last y in b where y.k = x.k"), ["last", "get last"])
        four = ["find", "last", "get first", "get last"]
        for word in ["find", "last"]:
            self.assertEqual(self.ways(f"{word} y in b where y.k = x.k", "unique b.k"), four)
            self.assertEqual(self.ways(f"{word} y in b where y.k = x.k", "single b"), four)

    def test_without_a_key(self):
        self.assertEqual(self.ways("find y in b where y.k < x.k"), ["find"])
        self.assertEqual(self.ways("last y in b where y.k < x.k", "single b"), ["find", "last"])

    def test_with_conditions_that_no_index_may_have(self):
        self.assertEqual(self.ways("last y in b where y.k = x.k and y.v < x.n", "unique b.k"), ["find", "last"])

    def test_by_an_index(self):
        index = "index d of q in b by k keep all\n"
        self.assertEqual(self.ways("find y from d at x.k where 0 < y.v", indexes=index), ["find"])
        told = self.ways("last y from d at x.k where 0 < y.v", "unique b.k", indexes=index)
        self.assertEqual(told, ["find", "last"])

    def test_a_row_that_none_reads(self):
        own = program("find y in b where y.k = 1\nput w")
        self.assertEqual(ways(own, 3), ["find", "last", "get first", "get last"])

    def test_wrong_lines(self):
        own = program("find y in b\nlast y in b until y.k = 1\nfind y in b where y.k = 1 until y.k = 2\nput w")
        for line in [3, 4, 5, 6, 0, 7]:
            with self.assertRaises(NoKey) as caught:
                ways(own, line)
            self.assertEqual(caught.exception.line, line)

    def test_other_tables_come_first(self):
        own = program("find y in b where y.k = 1")
        under = Facts(Program("table a k").schema, [])
        for line in [3, 99]:
            with self.assertRaises(OtherTables):
                ways(own, line, under=under)
        for ask in (idle_conditions, idle_lines, thinned):
            for text in [own.text, HEAD + "next", HEAD.rstrip("\n")]:
                with self.assertRaises(OtherTables):
                    ask(Program(text), under=under)


class IdleConditionsTest(unittest.TestCase):
    def idle(self, text, told, *lines):
        own, under = program(text), facts(*lines)
        with self.subTest(text=text, under=lines):
            self.assertEqual(idle_conditions(own, under=under), told)

    def test_conditions_of_each_kind_of_line(self):
        self.idle("index d of q in b by k keep last where q.v = q.v and 0 < q.v\nget y from d at 1\nput w y.v", [(3, 1)])
        self.idle("each x in a where x.k = x.k and x.n = 1\nput w\nend", [(3, 1)])
        self.idle("each x in a where x.n = x.n\nput w\nend", [(3, 1)])
        self.idle("find y in b where y.k = y.k and y.v = 3\nput w y.k", [(3, 1)])
        self.idle("last y in b where y.v = y.v\nput w y.k", [(3, 1)])
        self.idle("if 1 = 1 and 2 = 2\nput w\nend", [(3, 1), (3, 2)])
        self.idle("find y in b\nif 1 = 1 and y.k = 3\nput w\nend", [(4, 1)])

    def test_the_only_condition_of_an_if_is_never_idle(self):
        self.idle("if 1 = 1\nput w\nend", [])
        self.idle("if 1 = 1\nend", [])
        self.idle("if 1 = 1 and 2 = 2\nend", [(3, 1), (3, 2)])

    def test_where_counts_ahead_of_until(self):
        self.idle("find y in b where y.k = 1 and not y.k = 2 until y.v = 3 and 1 = 2\nput w y.v", [(3, 2), (3, 3)])
        self.idle("find y in b where y.k = 1 and not y.k = 2 until y.v = 3 and 1 = 1\nput w y.v", [(3, 2), (3, 4)])
        self.idle("find y in b where 1 = 1 until 1 = 2\nput w y.v", [(3, 1), (3, 2)])

    def test_each_by_itself(self):
        self.idle("each x in a where x.k = 3 and 3 = x.k\nput w\nend", [(3, 1), (3, 2)])

    def test_unread_searches(self):
        self.idle("find y in b where y.k = 3 until y.v = 4\nput w", [(3, 1), (3, 2)])

    def test_under_facts(self):
        text = "each x in a\nfind y in b where y.k = x.k and 0 < y.v\nif some y and x.n = 3\nput w\nend\nend"
        self.idle(text, [])
        self.idle("find y in b\nif some y and 1 < 2\nput w\nend", [(4, 1), (4, 2)], "filled b")
        self.idle("find y in b\nif some y and 1 < 2\nput w\nend", [(4, 2)])
        self.idle("each x in a\nlast y in b where y.k = x.k and not x.k < y.k\nput w y.v\nend", [(4, 2)])
        self.idle("find x in b where x.k = 1\nlast y in b where y.k = 1 and not x before y\nput w y.v", [(4, 2)], "unique b.k")

    def test_until_and_sorted(self):
        text = "each x in a\nfind y in b where y.k = x.k until x.k < y.k\nput w y.v\nend"
        self.idle(text, [])
        self.idle(text, [(4, 2)], "sorted b.k")
        self.idle(text, [(4, 2)], "single b")

    def test_lines_that_have_none(self):
        self.assertEqual(idle_conditions(program("find x in a\nput w x.k\nnext")), [])
        self.assertEqual(idle_conditions(Program("table a k")), [])


class IdleLinesTest(unittest.TestCase):
    def idle(self, text, told, *lines):
        own, under = program(text), facts(*lines)
        with self.subTest(text=text, under=lines):
            self.assertEqual(idle_lines(own, under=under), told)

    def test_lines_of_each_kind(self):
        self.idle("index d of q in b by k keep all\nput w", [3])
        self.idle("find y in b\nput w", [3])
        self.idle("last y in b\nput w", [3])
        self.idle("index d of q in b by k keep first\nget y from d at 1\nput w", [4])
        self.idle("index d of q in b by k keep first\nneed y from d at 1\nput w", [])
        self.idle("next\nput w", [4])
        self.idle("put w\nnext", [4])
        self.idle("put w\nnext\nnext", [4, 5])
        self.idle("each x in a\nnext\nend", [4])
        self.idle("each x in a where 1 = 2\nput w\nend", [4])

    def test_lines_that_cannot_be_left_out_by_their_form(self):
        self.idle("each x in a\nend\nif 1 = 1\nelse\nend", [])

    def test_lines_that_cannot_be_left_out_because_the_text_would_be_no_program(self):
        self.idle("index d of q in b by k keep all\nif d has 1\nend", [])
        self.idle("find y in b\nfind z in b where z.k = y.k\nput w", [4])
        self.idle("find y in b\nfind y in b\nif some y\nput w\nend", [3, 4])

    def test_needs(self):
        text = "index d of q in b by k keep last\neach x in b\nneed y from d at x.k\nput w\nend"
        self.idle(text, [5])
        text = "index d of q in b by k keep last\neach x in a\nneed y from d at x.k\nput w\nend"
        self.idle(text, [])
        self.idle(text, [5], "found a.k in b.k")

    def test_puts(self):
        self.idle("put w\nput w\nput u", [])
        self.idle("if 1 = 2\nput w\nelse\nput u\nend", [4])
        self.idle("find y in a where y.k < y.k\nif some y\nput w y.n\nend", [5])
        self.idle("each x in a\neach y in a\nif not x is y\nput w\nend\nend\nend", [6], "single a")
        self.idle("each x in a\neach y in a\nif not x is y\nput w\nend\nend\nend", [])

    def test_searches_that_only_facts_make_idle(self):
        text = "find y in b\nlast y in b\nput w y.v"
        self.idle(text, [3])
        self.idle(text, [3, 4], "single b")


class ThinnedTest(unittest.TestCase):
    def thin(self, text, told, *lines):
        own, under = program(text), facts(*lines)
        with self.subTest(text=text, under=lines):
            other = thinned(own, under=under)
            self.assertIsInstance(other, Program)
            self.assertEqual(other.text, (HEAD + told).rstrip("\n"))
            self.assertTrue(alike(own, other, under=under))
            for total in range(3):
                for tables in tables_with(own.schema, (0, 1), total):
                    if under.broken(tables) is None:
                        self.assertEqual(own(tables), other(tables))

    def test_nothing_is_idle(self):
        text = "each x in a\nfind y in b where y.k = x.k\nput w y.v\nend"
        self.thin(text, text)

    def test_from_the_last_line_to_the_first(self):
        text = "index d of q in b by k keep all\nfind y in b\nfind z from d at y.k\nfind u in b where u.k = z.v\nput w"
        self.thin(text, "put w")
        self.assertEqual(idle_lines(program(text)), [6])

    def test_the_last_of_two_that_are_idle_by_themselves(self):
        self.thin("each x in a where x.k = 3 and 3 = x.k\nput w\nend", "each x in a where x.k = 3\nput w\nend")
        self.thin("find y in b\nfind y in b\nput w y.v", "find y in b\nput w y.v")
        self.thin("find y in b\nlast y in b\nput w y.v", "find y in b\nput w y.v", "single b")
        self.thin("if 1 = 1 and 2 = 2\nput w\nend", "if 1 = 1\nput w\nend")

    def test_conditions_from_the_last_to_the_first(self):
        text = "find y in b where y.k = 3 and not y.k = 4 until y.k = 5 and 1 = 2\nput w y.v"
        self.thin("find y in b where 1 = 1 until 1 = 2\nput w y.v", "find y in b\nput w y.v")
        self.thin("find y in b where y.k = 3 and 3 = y.k until y.k = 5 and 5 = y.k\nput w y.v",
                  "find y in b where y.k = 3 until y.k = 5\nput w y.v")
        self.thin("each x in a where x.k < 5 and x.k < 4 and x.k < 5\nput w\nend", "each x in a where x.k < 4\nput w\nend")

    def test_conditions_ahead_of_their_line(self):
        self.thin("find y in b where y.k = 1\nput w", "put w")

    def test_lines_of_loops_and_ifs_stay(self):
        self.thin("each x in a where x.k = 1\nif x.n = 2 and 1 = 1\nnext\nelse\nput u\nend\nend",
                  "each x in a where x.k = 1\nif x.n = 2\nelse\nput u\nend\nend")
        self.thin("each x in a where x.k = 1\nif x.n = 2 and x.k = 1\nend\nend", "each x in a\nif x.n = 2\nend\nend")

    def test_under_facts(self):
        text = (
            "index d of q in b by k keep last where q.v = q.v\neach x in a\nneed y from d at x.k\n"
            "find z in b where z.k = x.k and not x.k < z.k until x.k < z.k\nif some z and z is y\nput w z.v\nend\nend"
        )
        self.thin(text, "each x in a\nfind z in b where z.k = x.k\nif some z\nput w z.v\nend\nend",
                  "found a.k in b.k", "unique b.k", "sorted b.k")

    def test_program_with_tables_alone(self):
        self.assertEqual(thinned(Program("table a k")).text, "table a k")


if __name__ == "__main__":
    unittest.main()
