import unittest

from cases import PairCase, rows_in_all
from lookuploops.errors import NoLine, OtherTables
from lookuploops.facts import Facts
from lookuploops.programs import Program
from lookuploops.questions import alike, failing, failures, least_facts, parting, settled

PEOPLE = "table orders who\ntable people key boss pay\n"
FIND = "each x in a\nfind y in b where y.k = x.k\nput w y.v\nend"
LAST = "each x in a\nlast y in b where y.k = x.k\nput w y.v\nend"
FIRST_KEPT = "index d of q in b by k keep first\neach x in a\nget y from d at x.k\nput w y.v\nend"
LAST_KEPT = "index d of q in b by k keep last\neach x in a\nget y from d at x.k\nput w y.v\nend"


class ExamplesTest(unittest.TestCase):
    def test_examples_of_the_document(self):
        loop = Program(
            PEOPLE + "each x in orders\nfind p in people where p.key = x.who\nif some p\nput pay p.pay\nend\nend"
        )
        table = Program(
            PEOPLE + "index d of p in people by key keep last\neach x in orders\nneed p from d at x.who\nput pay p.pay\nend"
        )
        shown = parting(loop, table)
        self.assertEqual([alike(loop, table), len(shown["orders"]), len(shown["people"])], [False, 1, 0])
        given = Facts(loop.schema, [
            "single people", "unique people.key", "filled people", "found orders.who in people.key",
        ])
        self.assertEqual(least_facts(loop, table, given), [
            ["single people", "found orders.who in people.key"], ["unique people.key", "found orders.who in people.key"],
        ])
        told = [failures(table), failures(table, under=given), settled(loop, under=given)]
        self.assertEqual(told, [[5], [], [(4, "always"), (5, "always")]])
        missed = failing(table, 5)
        told = settled(Program("table a k\nif 1 < 0\nput w\nelse\nput u\nend"))
        self.assertEqual([len(missed["orders"]), len(missed["people"]), told], [1, 0, [(2, "never"), (3, "unreached")]])
        with self.assertRaises(NoLine) as caught:
            failing(loop, 4)
        self.assertEqual(caught.exception.line, 4)

    def test_functions_are_defined_in_the_module(self):
        for function in (alike, parting, failures, failing, settled, least_facts):
            self.assertEqual(function.__module__, "lookuploops.questions")


class EdgesTest(PairCase):
    def test_same_programs(self):
        for text in [FIND, LAST, FIRST_KEPT, "put w", "next"]:
            self.pair(text, text, None)

    def test_first_and_last(self):
        self.pair(FIND, LAST, 3)
        self.pair(FIND, LAST, None, "unique b.k")
        self.pair(FIND, LAST, None, "single b")
        self.pair(FIND, LAST, 3, "unique b.v", "sorted b.k", "found a.k in b.k")
        self.pair(FIND, LAST, None, "unique b.v", "found b.v in a.n", "single a")

    def test_look_up_tables(self):
        self.pair(FIND, FIRST_KEPT, None)
        self.pair(LAST, LAST_KEPT, None)
        self.pair(FIND, LAST_KEPT, 3)
        self.pair(FIRST_KEPT, LAST_KEPT, 3)
        self.pair(FIRST_KEPT, LAST_KEPT, None, "unique b.k")
        rows = "index d of q in b by k keep all\neach x in a\nfind y from d at x.k\nput w y.v\nend"
        self.pair(FIND, rows, None)
        self.pair(LAST, rows.replace("find", "last"), None)
        self.pair(LAST, rows, 3)

    def test_a_condition_in_the_index_or_behind_the_look_up(self):
        within = "index d of q in b by k keep {} where 0 < q.v\neach x in a\nget y from d at x.k\nput w y.v\nend"
        behind = (
            "index d of q in b by k keep {}\neach x in a\nget y from d at x.k\n"
            "if 0 < y.v\nput w y.v\nelse\nfind z in b where 1 = 0\nput w z.v\nend\nend"
        )
        for way in ["first", "last"]:
            self.pair(within.format(way), behind.format(way), 3)
            self.pair(within.format(way), behind.format(way), None, "unique b.k")
            self.pair(within.format(way), behind.format(way), None, "single b")
        self.pair(within.format("first"), behind.format("first"), 3, "sorted b.v")
        self.pair(within.format("last"), behind.format("last"), None, "sorted b.v")

    def test_a_condition_of_the_search_in_the_index(self):
        behind = "each x in a\nfind y in b where y.k = x.k and not y.v < 0\nput w y.v\nend"
        within = "index d of q in b by k keep {} where not q.v < 0\neach x in a\nget y from d at x.k\nput w y.v\nend"
        self.pair(behind, within.format("first"), None)
        self.pair(behind, within.format("last"), 3)

    def test_an_unsorted_table(self):
        until = "each x in a\nfind y in b where y.k = x.k until x.k < y.k\nput w y.v\nend"
        self.pair(FIND, until, 3)
        self.pair(FIND, until, None, "sorted b.k")
        self.pair(FIND, until, 3, "sorted b.v", "unique b.k", "found a.k in b.k")
        self.pair(LAST, until.replace("find", "last"), None, "sorted b.k")
        self.pair(LAST, until.replace("find", "last"), 3, "unique b.k")

    def test_a_break_ahead_of_the_test(self):
        early = "each x in a\nfind y in b where y.k = x.k until not y.k < x.k\nput w y.v\nend"
        late = "each x in a\nfind y in b where y.k = x.k until x.k < y.k\nput w y.v\nend"
        self.pair(early, late, 2)
        self.pair(early, late, 2, "sorted b.k", "unique b.k")
        self.pair(early, "each x in a\nfind y in b where 1 = 2\nput w y.v\nend", None)

    def test_a_key_that_is_not_there(self):
        need = LAST_KEPT.replace("get", "need")
        self.pair(LAST_KEPT, need, 1)
        self.pair(LAST_KEPT, need, None, "found a.k in b.k")
        self.pair(LAST_KEPT, need, 2, "found a.n in b.k")
        self.pair(LAST_KEPT, need, 2, "filled b")
        asked = LAST_KEPT.replace("get y", "if d has x.k\nget y").replace("\nend", "\nend\nend")
        some = LAST_KEPT.replace("put w y.v", "if some y\nput w y.v\nend")
        self.pair(asked, some, None)
        self.pair(asked, LAST_KEPT, 1)
        self.pair(asked, LAST_KEPT, None, "found a.k in b.k")

    def test_none_is_no_value(self):
        head = "find y in b where y.k = 7\nfind z in b where z.k = 8\n"
        self.pair(head + "if y.v = z.v\nput w\nend", head + "if not y.v < z.v and not z.v < y.v\nput w\nend", 0)
        told = head + "if some y and some z\nif not y.v < z.v and not z.v < y.v\nput w\nend\nend"
        self.pair(head + "if y.v = z.v\nput w\nend", told, None)
        self.pair(head + "put w y.v", head + "put w z.v", 1)
        never = "find u in b where 1 = 2\n"
        self.pair(never + "put w u.v", never + "put w 3", 0)
        self.pair(never + "put w u.v", head + "put w y.v", 1)
        self.pair(never + "put w u.v 5", head + "if not some y\nput w y.k 5\nelse\nput w u.v 5\nend".replace("u.v", "y.v"), 1)
        self.pair(never + "each x in b\nput w u.v\nend", never + "each x in b\nput w x.v\nend", 1)
        self.pair(never + "put w u.v", "each x in b\nend\n" + never + "put w u.k", None)

    def test_puts(self):
        self.pair("put w", "put u", 0)
        self.pair("put w", "put w\nput w", 0)
        self.pair("put w 1", "put w", 0)
        self.pair("put w 1", "put w 2", 0)
        self.pair("each x in a\nput w\nend", "each x in a\nend", 1)
        self.pair("each x in a\nput w x.k\nend", "each x in a\nput w x.n\nend", 1)
        self.pair("each x in a\nput w x.k\nend", "each x in a\nput w 7\nend", 1)
        self.pair("each x in a\nput w x.k\nend", "each y in a\nput w y.k\nend", None)
        self.pair("put w\nput u", "put u\nput w", 0)
        self.pair("put u\neach x in a\nput w\nend", "each x in a\nput w\nend\nput u", None)

    def test_texts_that_differ_alone(self):
        one = "each x in a where x.k = 1 and x.n < 2\nput w\nend"
        self.pair(one, "each x in a where x.n < 2 and 1 = x.k\nput w\nend", None)
        self.pair(one, "each x in a\nif x.k = 1 and x.n < 2\nput w\nend\nend", None)
        self.pair(one, "each x in a\nif not x.k = 1\nnext\nend\nif not x.n < 2\nnext\nend\nput w\nend", None)
        self.pair(one, "each x in a where x.k = 1\nput w\nend", 1)

    def test_a_search_that_nothing_reads(self):
        self.pair("find y in b\nput w", "put w", None)
        self.pair("find y in b\nif y.v = 1\nfind z in b\nend\nput w", "put w", None)


class OrderTest(PairCase):
    def test_rooms_between_values(self):
        two = "each x in a where {} < x.k and x.k < {}\neach y in a where {} < y.k and y.k < {}\nif not x is y{}\n"
        for low, high, room in [(3, 4, 0), (3, 5, 1), (3, 6, 2), (-1, 1, 1), (-1, 2, 2)]:
            both = two.format(low, high, low, high, " and not x.k = y.k") + "put w\nend\nend\nend"
            many = {0: None, 1: None, 2: 2}[room]
            self.pair(both, "put w\nnext", 0)
            self.pair(both, "each x in a\nend", many, values=(-1, 0, 1, 4, 5))
            one = f"each x in a where {low} < x.k and x.k < {high}\nput w\nend"
            self.pair(one, "each x in a\nend", 1 if room else None, values=(-1, 0, 1, 4, 5))
            unique = two.format(low, high, low, high, "") + "put w\nend\nend\nend"
            self.pair(unique, "each x in a\nend", many, "unique a.k", values=(-1, 0, 1, 4, 5))

    def test_three_values_where_there_is_room_for_two(self):
        text = (
            "each x in a where 3 < x.k and x.k < {high}\neach y in a where 3 < y.k and y.k < {high}\n"
            "find z in a where 3 < z.k and z.k < {high} and not z is x and not z is y\n"
            "if some z and not x is y\nput w\nend\nend\nend"
        )
        self.pair(text.format(high=6), "each x in a\nend", None, "unique a.k", values=(4, 5))
        self.pair(text.format(high=7), "each x in a\nend", 3, "unique a.k", values=(4, 5))
        self.pair(text.format(high=6), "each x in a\nend", 3, values=(4, 5))

    def test_strictly_between_two_rows(self):
        text = "each x in a\nfind y in b where x.k < y.v and y.v < x.n\nif some y and {}\nput w\nend\nend"
        self.pair(text.format("1 = 1"), "each x in a\nend", 2)
        self.pair(text.format("x.n < 2 and 0 < x.k"), "each x in a\nend", None)
        self.pair(text.format("x.n < 3 and 0 < x.k"), "each x in a\nend", None)
        self.pair(text.format("x.n < 4 and 0 < x.k"), "each x in a\nend", 2)

    def test_great_integers(self):
        great = 10 ** 19
        text = f"each x in a where {great} < x.k and x.k < {great + 2}\nput w x.k\nend"
        self.pair(text, text.replace("put w x.k", f"put w {great + 1}"), None)
        text = text.replace(str(great + 2), str(great + 3))
        self.pair(text, text.replace("put w x.k", f"put w {great + 1}"), 1)

    def test_places(self):
        head = "find y in b where y.k = 1\nlast z in b where z.k = 1\n"
        self.pair(head + "if y before z\nput w\nend", head + "if some y and not y is z\nput w\nend", None)
        self.pair(head + "if z before y\nput w\nend", "find y in b", None)
        self.pair(head + "if y before z\nput w\nend", "find y in b", 2)
        self.pair(head + "if y before z\nput w\nend", "find y in b", None, "unique b.k")
        self.pair(head + "if y before z and z.v < y.v\nput w\nend", "find y in b", None, "sorted b.v")
        self.pair(head + "if y before z and y.v < z.v\nput w\nend", "find y in b", 2, "sorted b.v")

    def test_rows_that_a_search_passed_go_on_failing(self):
        head = "find y in b where y.k = 1\nfind z in b where z.k < 2 and 0 < z.k\n"
        self.pair(head + "if not y is z\nput w\nend", "put w", 1)
        self.pair(head + "if some y and not y is z\nput w\nend", "find y in b", None)
        self.pair(head + "if some z and not y is z\nput w\nend", "find y in b", None)
        head = "find y in b where y.k = 1 until y.v = 5\nfind z in b where z.v = 5\n"
        self.pair(head + "if z before y\nput w\nend", "find y in b", None)
        self.pair(head + "if y before z\nput w\nend", "find y in b", 2, values=(1, 5))
        head = "last y in b where y.k = 1 until y.v = 5\nfind z in b where z.v = 5\nfind u in b where u.k = 1\n"
        self.pair(head + "if some y and u before y and z before y\nput w\nend", "find y in b", None, values=(1, 5))
        self.pair(head + "if u before y and y before z\nput w\nend", "find y in b", 3, values=(1, 5))


class ChainsTest(PairCase):
    head = "table a k\ntable t k up v\n"

    def test_chains_of_searches(self):
        chain = "each x in a\nfind p in t where p.k = x.k\nfind q in t where q.k = p.up\nfind r in t where r.k = q.up\n"
        kept = (
            "index d of z in t by k keep {}\neach x in a\nget p from d at x.k\nget q from d at p.up\nget r from d at q.up\n"
        )
        end = "put w r.v q.v\nend"
        self.pair(chain + end, kept.format("first") + end, None, values=(0, 1))
        self.pair(chain + end, kept.format("last") + end, 3, values=(0, 1))
        self.pair(chain + end, kept.format("last") + end, None, "unique t.k", values=(0, 1))

    def test_how_long_a_chain_can_be(self):
        chain = "each x in a\nfind p in t where p.k = x.k\nfind q in t where q.k = p.up\nfind r in t where r.k = q.up\n"
        apart = chain + "if some r and not r is q and not q is p and not r is p\nput w\nend\nend"
        self.pair(apart, "each x in a\nend", 4, values=(0, 1))
        self.pair(apart, "each x in a\nend", 4, "unique t.up", "unique t.k", values=(0, 1))
        falling = chain + "if some r and p.up < p.k and q.up < q.k and not r.k < p.k\nput w\nend\nend"
        self.pair(falling, "each x in a\nend", None, values=(0, 1))

    def test_a_ring(self):
        ring = "each x in a\nfind p in t where p.k = x.k\nfind q in t where q.k = p.up\nfind r in t where r.k = q.up\n"
        ring += "if r is p and not q is p\nput w\nend\nend"
        self.pair(ring, "each x in a\nend", 3, values=(0, 1))
        self.pair(ring, "each x in a\nend", 3, "found a.k in t.k", "filled a", values=(0, 1))


class ReferencesTest(PairCase):
    head = "table a k\ntable b k up\ntable c k up\ntable d k\n"
    text = "each x in a\nfind y in b where y.k = x.k\nfind z in c where z.k = y.up\nfind u in d where u.k = z.up\n"
    found = ("found a.k in b.k", "found b.up in c.k", "found c.up in d.k")

    def test_references_through_several_tables(self):
        one = self.text + "if some u\nput w\nend\nend"
        other = "each x in a\nput w\nend"
        self.pair(one, other, None, *self.found, values=(0, 1))
        self.pair(one, other, 1, values=(0, 1))
        self.pair(one, other, 2, self.found[0], values=(0, 1))
        self.pair(one, other, 3, *self.found[:2], values=(0, 1))
        self.pair(one, other, 1, *self.found[1:], values=(0, 1))
        self.pair(one, other, 2, self.found[0], self.found[2], "filled a", values=(0, 1))

    def test_rows_that_must_be_found_count(self):
        self.pair("each x in a\nput w\nend", "each x in a\nend", 4, *self.found, values=(0, 1))
        self.pair("each y in b\nput w\nend", "each y in b\nend", 3, *self.found, values=(0, 1))
        self.pair("put w", "put u", 0, *self.found, values=(0, 1))
        self.pair("put w", "put u", 4, *self.found, "filled a", values=(0, 1))
        self.pair("put w", "put u", 2, "filled a", "filled c", values=(0, 1))
        self.pair("find y in b\nput w y.k", "put w 3", 0, *self.found, values=(0, 1))

    def test_rows_that_owe_can_share_the_row_that_is_found(self):
        both = "each x in a\neach y in a where not x is y{}\nput w\nend\nend"
        self.pair(both.format(""), "each x in a\nend", 3, self.found[0], values=(0, 1))
        self.pair(both.format(" and x.k = y.k"), "each x in a\nend", 5, *self.found, values=(0, 1))
        self.pair(both.format(" and x.k < y.k"), "each x in a\nend", 4, self.found[0], values=(0, 1))
        self.pair(both.format(""), "each x in a\nend", 4, self.found[0], "unique a.k", values=(0, 1))
        self.pair(both.format(""), "each x in a\nend", 5, *self.found[:2], "unique a.k", values=(0, 1))
        self.pair(both.format(""), "each x in a\nend", 6, *self.found[:2], "unique a.k", "unique b.up", values=(0, 1))
        self.pair(both.format(""), "each x in a\nend", 8, *self.found, "unique a.k", "unique b.up", "unique c.up",
                  values=(0, 1))

    def test_values_that_only_differ(self):
        one = "each x in a\neach y in a\nput w x.k\nend\nend"
        other = "each x in a\neach y in a\nput w y.k\nend\nend"
        self.pair(one, other, 2, values=(0, 1))
        self.pair(one, other, 4, self.found[0], values=(0, 1))
        self.pair(one, other, 5, *self.found[:2], values=(0, 1))
        self.pair(one, other, 6, *self.found, "unique b.k", values=(0, 1))
        self.pair(one, other, 6, *self.found[:2], "unique b.up", values=(0, 1))
        self.pair(one, other, 6, "found a.k in b.k", "found b.k in c.up", values=(0, 1))

    def test_two_tables_that_owe_the_same_one(self):
        both = "each x in a\neach y in b\nput w\nend\nend"
        lines = ("found a.k in d.k", "found b.k in d.k", "unique a.k", "unique b.k")
        self.pair(both, "each x in a\nend", 3, *lines, values=(0, 1))
        self.pair(both.replace("in b", "in b where x.k < y.k"), "each x in a\nend", 4, *lines, values=(0, 1))
        lines = ("found b.k in d.k", "found b.up in d.k", "unique b.k", "unique b.up")
        self.pair("each x in b\nput w\nend", "each x in b\nend", 2, *lines, values=(0, 1))
        text = "each x in b\neach y in b where not x is y\nput w\nend\nend"
        self.pair(text, "each x in b\nend", 4, *lines, values=(0, 1))

    def test_filled_tables_that_need_the_same_row(self):
        text = "find y in b where not y.k = 1\nfind z in c where not z.k = 2\nif not some y and not some z\nput w\nend"
        lines = ("found b.k in d.k", "found c.k in d.k", "single d", "filled b")
        self.pair(text, "find y in b", 2, *lines, values=(1, 2))
        self.pair(text, "find y in b", None, *lines, "filled c", values=(1, 2))
        self.pair(text, "find y in b", 4, *lines[:2], "filled b", "filled c", values=(1, 2))

    def test_columns_with_one_value(self):
        one = "each x in b\neach y in b\nput w x.{}\nend\nend"
        other = "each x in b\neach y in b\nput w y.{}\nend\nend"
        lines = ("found b.up in d.k", "single d")
        self.pair(one.format("up"), other.format("up"), None, *lines, values=(0, 1))
        self.pair(one.format("k"), other.format("k"), 3, *lines, values=(0, 1))
        self.pair(one.format("k"), other.format("k"), None, *lines, "unique b.up", values=(0, 1))

    def test_the_fewest_rows_of_several_ways_to_differ(self):
        text = "each x in a\neach y in a where not x is y\nput w\nend\nend\nfind z in b\nif some z\nput u\nend"
        self.pair(text, "each x in a\nend", 1, values=(0, 1))
        self.pair(text, "each x in a\nend", 2, *self.found[1:], values=(0, 1))
        self.pair(text, "each x in a\nend", 2, "found a.k in d.k", "found b.k in d.k", values=(0, 1))
        self.pair(text, "each x in a\nend", 3, "found a.k in d.k", "found b.k in d.k", "found b.up in c.k", values=(0, 1))

    def test_a_found_row_among_rows_that_a_search_passed(self):
        text = "each x in a\nfind y in b where y.k = x.k and y.up = x.k\nif some y\nput w\nend\nend"
        self.pair(text, "each x in a\nput w\nend", 2, "found a.k in b.k", values=(0, 1))
        self.pair(text, "each x in a\nput w\nend", 2, "found a.k in b.k", "single b", values=(0, 1))
        self.pair(text, "each x in a\nput w\nend", 4, *self.found, "filled a", values=(0, 1))
        lines = ("found a.k in b.k", "found b.k in c.k", "found b.up in c.k", "single c")
        self.pair(text, "each x in a\nput w\nend", None, *lines, values=(0, 1))

    def test_one_value_alone(self):
        same = "each x in a\neach y in a\nif x.k = y.k\nput w\nend\nend\nend"
        other = "each x in a\neach y in a\nput w\nend\nend"
        self.pair(same, other, 2, values=(0, 1))
        self.pair(same, other, None, "found a.k in b.k", "single b", values=(0, 1))
        self.pair(same, other, None, "found a.k in b.k", "found b.k in c.k", "single c", values=(0, 1))
        self.pair(same, other, 6, "found a.k in b.k", "found b.k in c.k", values=(0, 1))


class LoopsTest(PairCase):
    head = "table a k n\n"

    def test_loops_nested_over_one_table(self):
        one = "each x in a\neach y in a where x before y and x.k = y.k\nput w\nend\nend"
        other = "each x in a\neach y in a where x.k = y.k\nif x before y\nput w\nend\nend\nend"
        self.pair(one, other, None)
        self.pair(one, other.replace("x before y", "not y before x"), 1)
        self.pair(one, other.replace("x before y", "not x is y"), 2)
        self.pair(one, other.replace("x before y", "not x is y"), None, "unique a.k")
        self.pair(one, "each x in a\nend", 2)
        self.pair(one, "each x in a\nend", None, "single a")

    def test_loops_nested_the_other_way_round(self):
        one = "each x in a\neach y in a\nput w x.k y.n\nend\nend"
        self.pair(one, "each y in a\neach x in a\nput w y.k x.n\nend\nend", None)
        self.pair(one, "each y in a\neach x in a\nput w x.k y.n\nend\nend", 2)
        self.pair(one, "each y in a\neach x in a\nput w x.k y.n\nend\nend", None, "single a")

    def test_loops_nested_over_two_tables(self):
        self.head = "table a k n\ntable b k\n"
        one = "each x in a\neach y in b\nput w\nend\nend"
        self.pair(one, "each y in b\neach x in a\nput w\nend\nend", 2)

    def test_two_loops_behind_each_other(self):
        one = "each x in a\nput w x.k\nend\neach y in a\nput u y.n\nend"
        joined = "each x in a\nput w x.k\nput u x.n\nend"
        self.pair(one, joined, None)
        self.pair(one, "each x in a\nput u x.n\nput w x.k\nend", 1)
        ending = one.replace("put w x.k", "put w x.k\nif x.k = 1\nnext\nend")
        self.pair(ending, joined.replace("put w x.k", "put w x.k\nif x.k = 1\nnext\nend"), 1)

    def test_an_end_of_the_run_ahead_of_a_loop(self):
        ended = "find y in a where y.k = 3\nif some y\nnext\nend\neach x in a\nput w\nend"
        self.pair(ended, "each x in a\nput w\nend", 1, values=(2, 3))
        self.pair(ended, "find y in a where y.k = 3\neach x in a\nif not some y\nput w\nend\nend", None, values=(2, 3))

    def test_loops_over_indexes(self):
        one = "index d of q in a by k keep all where 0 < q.n\neach x in a\neach y from d at x.n\nput w y.n\nend\nend"
        other = "each x in a\neach y in a where y.k = x.n and 0 < y.n\nput w y.n\nend\nend"
        self.pair(one, other, None)
        self.pair(one, other.replace("0 < y.n", "0 < x.n"), 2)

    def test_names_are_forgotten_between_loops_over_one_table(self):
        self.head = "table a k n\ntable b k v\n"
        text = "find y in b where y.k = 1\neach x in a\nlast y in b where y.k = 1\nput u\nend\neach z in a\nput w y.v\nend"
        self.pair(text, text.replace("put w y.v", "find y in b where y.k = 1\nput w y.v"), None)
        self.pair(text, text.replace("put w y.v", "last y in b where y.k = 1\nput w y.v"), 3)
        inner = "each x in a\neach y in b\nfind z in b\nnext\nend\neach u in b\nput w z.v\nend\nend"
        self.pair(inner, "each x in a\nfind z in b where 1 = 2\neach u in b\nput w z.v\nend\nend", None)

    def test_names_are_forgotten(self):
        one = "find y in a where y.k = 1\neach x in a\nif x.n = 5\nlast y in a where y.k = 1\nend\nend\nput w y.n"
        self.pair(one, "find y in a where y.k = 1\nput w y.n", None, values=(1, 5))
        self.pair("each x in a\nlast y in a\nend\nput w y.k", "find y in a where 1 = 2\nput w y.k", None)

    def test_deeper_loops_are_no_trouble(self):
        text = "each x in a\neach y in a\neach z in a where x before y and y before z\nput w\nend\nend\nend"
        self.pair(text, "each x in a\nend", 3)


class LimitsTest(PairCase):
    """Questions about as much as they may be about."""

    head = "table a k n\ntable t k b v\ntable u k v w\n"

    def test_six_searches_in_two_loops(self):
        until = (
            "each x in t\neach y in t where x before y\nfind p in t where p.k = x.b until x.b < p.k\n"
            "last q in t where q.k = y.b until y.b < q.k\nfind r in u where r.k = p.v until p.v < r.k\n"
            "if p before q\nput w p.v q.v r.v\nelse\nput z r.v\nend\nend\nend"
        )
        plain = until.replace(" until x.b < p.k", "").replace(" until y.b < q.k", "").replace(" until p.v < r.k", "")
        self.pair(until, plain, None, "sorted t.k", "sorted u.k", values=(0, 1))
        self.pair(until, plain, 4, "sorted t.k", values=(0, 1))
        lines = ("found t.v in u.k", "found t.b in u.v", "found u.w in a.k", "filled t")
        self.pair(until, plain, None, "sorted t.k", "sorted u.k", *lines, values=(0, 1))

    def test_rows_that_are_all_different(self):
        text = (
            "each x in a\nfind p in t where p.k = x.k\nfind q in t where q.k = p.b\nfind r in t where r.k = q.b\n"
            "find s in t where s.k = r.b\nif some s and not s is r and not r is q and not q is p\n"
            "if not s is q and not r is p and not s is p\nput w\nend\nend\nend"
        )
        self.pair(text, "each x in a\nend", 5, values=(0, 1))
        self.pair(text, "each x in a\nend", 6, "found t.v in u.k", values=(0, 1))
        self.pair(text, "each x in a\nend", 9, "found t.v in u.k", "unique t.v", values=(0, 1))
        lines = ("found t.v in u.k", "found t.b in u.v", "unique t.v", "unique t.b", "sorted t.k")
        self.pair(text, "each x in a\nend", 9, *lines, values=(0, 1))


class OtherTablesTest(unittest.TestCase):
    def test_programs_over_other_tables(self):
        one = Program("table a k\ntable b k\nput w")
        for head in ["table a k", "table a k\ntable b k v", "table a k\ntable b n", "table a k\ntable b k\ntable c k"]:
            other = Program(head + "\nput w")
            for first, second in [(one, other), (other, one)]:
                self.assertRaises(OtherTables, alike, first, second)
                self.assertRaises(OtherTables, parting, first, second)
                self.assertRaises(OtherTables, least_facts, first, second, Facts(first.schema, []))

    def test_facts_over_other_tables(self):
        one = Program("table a k\ntable b k\nput w")
        under = Facts(Program("table a k").schema, [])
        for ask in (alike, parting):
            with self.assertRaises(OtherTables):
                ask(one, one, under=under)
        self.assertRaises(OtherTables, least_facts, one, one, under)
        for ask in (failures, settled):
            with self.assertRaises(OtherTables):
                ask(one, under=under)
        with self.assertRaises(OtherTables):
            failing(one, 99, under=under)

    def test_the_order_of_tables_does_not_matter(self):
        one = Program("table a k\ntable b k v\nfind y in b where y.k = 1\nput w y.v")
        other = Program("table b k v\ntable a k\nlast y in b where y.k = 1\nput w y.v")
        self.assertEqual(rows_in_all(parting(one, other)), 2)
        self.assertTrue(alike(one, other, under=Facts(other.schema, ["unique b.k"])))
        self.assertTrue(alike(one, other, under=Facts(one.schema, ["unique b.k"])))


if __name__ == "__main__":
    unittest.main()
