import unittest

from lookuploops.errors import BadProgram
from lookuploops.programs import Program

HEAD = "table a k n\ntable b k v\n"
INDEXES = "index da of q in b by k keep all\nindex df of q in b by k keep first\nindex dl of q in a by n keep last\n"
RESERVED = (
    "table index of in from at by keep first last all where until find get need each if else end put next and not "
    "is some before has missing none"
).split(" ")


class ReadingCase(unittest.TestCase):
    def right(self, text):
        with self.subTest(text):
            self.assertEqual(Program(text).text, text)

    def wrong(self, text, line):
        with self.subTest(text), self.assertRaises(BadProgram) as caught:
            Program(text)
        if hasattr(caught, "exception"):
            self.assertEqual(caught.exception.line, line)

    def wrong_last(self, text):
        """The last line is wrong, and without it all lines are right, but for blocks that are open."""
        lines = text.split("\n")
        self.wrong(text, len(lines))
        self.wrong(text + "\nrubbish", len(lines))
        try:
            Program("\n".join(lines[:-1]))
        except BadProgram as error:
            self.assertEqual(error.line, len(lines), text)


class TextTest(ReadingCase):
    def test_empty_text(self):
        self.wrong("", 1)

    def test_empty_lines(self):
        self.wrong("\n", 1)
        self.wrong("table a k\n", 2)
        self.wrong("\ntable a k", 1)
        self.wrong("table a k\n\nput w", 2)

    def test_single_spaces(self):
        for line in [" put w", "put w ", "put  w", "next ", " next", "each x in a ", "find y in b  where y.k = 1"]:
            self.wrong(HEAD + line, 3)
        self.wrong(HEAD + "if 1 = 1 \nend", 3)
        self.wrong(HEAD + "if 1 = 1\nend ", 4)
        self.wrong(HEAD + "if 1 = 1\nelse \nend", 4)
        self.wrong("table a k ", 1)

    def test_most_lines(self):
        self.right(HEAD + "\n".join(["put w"] * 38))
        self.wrong(HEAD + "\n".join(["put w"] * 39), 41)
        self.wrong(HEAD + "\n".join(["put w"] * 60), 41)
        self.wrong(HEAD + "\n".join(["put w"] * 37 + ["rubbish", "put w"]), 40)
        self.wrong(HEAD + "\n".join(["put w"] * 37 + ["if 1 = 1", "end"]), 41)
        self.right(HEAD + "\n".join(["put w"] * 36 + ["if 1 = 1", "end"]))

    def test_lacking_end(self):
        self.wrong(HEAD + "each x in a", 4)
        self.wrong(HEAD + "if 1 = 1\nput w\nelse", 6)
        self.wrong(HEAD + "each x in a\nif some x\nend", 6)
        self.wrong(HEAD + "\n".join(["put w"] * 37 + ["each x in a"]), 41)
        self.wrong(HEAD + "each x in a\nrubbish", 4)


class TablesTest(ReadingCase):
    def test_tables_alone(self):
        self.right("table a k")
        self.right("table a k n v\ntable b k\ntable c a b c\ntable d d")

    def test_four_tables(self):
        five = "table a k\ntable b k\ntable c k\ntable d k\ntable e k"
        self.wrong(five, 5)
        self.wrong(five + "\nrubbish", 5)
        self.wrong(five + "\nindex d of q in a by k keep all\nput w", 5)

    def test_wrong_tables(self):
        for line in [
            "table", "table a", "table a k n v w", "table a k k", "table a k n k", "table a K", "table A k", "table a k2",
            "table a table", "table of k", "table a-b k", "table abcdefghijklm k", "table a abcdefghijklm", "Table a k",
            "tables a k", "table a k,n",
        ]:
            self.wrong(line, 1)
            self.wrong("table z k\n" + line, 2)
        self.right("table abcdefghijkl abcdefghijkl")

    def test_names_of_tables_differ(self):
        self.wrong("table a k\ntable b k\ntable a n", 3)

    def test_places(self):
        self.wrong("put w", 1)
        self.wrong("index d of q in b by k keep all\ntable b k", 1)
        self.wrong("end", 1)
        self.wrong(HEAD + "put w\ntable c k", 4)
        self.wrong(HEAD + "index d of q in b by k keep all\ntable c k", 4)
        self.wrong(HEAD + "each x in a\ntable c k\nend", 4)

    def test_words_of_the_language_are_no_names(self):
        for word in RESERVED:
            self.wrong(f"table {word} k", 1)
            self.wrong(f"table a {word}", 1)
            self.wrong(HEAD + f"index {word} of q in b by k keep all", 3)
            self.wrong(HEAD + f"index d of {word} in b by k keep all", 3)
            self.wrong(HEAD + f"find {word} in b", 3)
            self.wrong(HEAD + f"each {word} in b\nend", 3)
            self.wrong(HEAD + f"put {word}", 3)

    def test_names_that_begin_with_words_of_the_language(self):
        for word in RESERVED:
            name = word + "s"
            self.right(f"table {name} k\nfind x in {name} where x.k = 1\nput {name} x.k")
            self.right(f"table a {name}\nfind x in a where x.{name} = 1 until not x.{name} < 2\nput w x.{name}")
            self.right(f"table a k\nindex {name} of q in a by k keep first\nget x from {name} at 1\nif {name} has 2\nend")
            self.right(f"table a k\nfind {name} in a where {name}.k = 1 and some {name}\nif {name} is {name}\nend")
            self.right(f"table a k\nindex d of {name} in a by k keep all where 0 < {name}.k\neach {name} in a\nend")


class IndexesTest(ReadingCase):
    def test_right_ones(self):
        for way in ["first", "last", "all"]:
            self.right(HEAD + f"index d of q in b by k keep {way}")
            self.right(HEAD + f"index d of q in b by v keep {way} where q.k = q.v and not 0 < q.v and 1 = 2 and 1 < q.k")

    def test_four_indexes(self):
        lines = [f"index {name} of q in b by k keep all" for name in ["da", "db", "dc", "dd", "de"]]
        self.right(HEAD + "\n".join(lines[:4]))
        self.wrong(HEAD + "\n".join(lines), 7)

    def test_place(self):
        self.wrong(HEAD + "put w\nindex d of q in b by k keep all", 4)
        self.wrong(HEAD + "if 1 = 1\nindex d of q in b by k keep all\nend", 4)

    def test_wrong_forms(self):
        for line in [
            "index", "index d", "index d of q in b by k keep", "index d of q in b by k keep some", "index d of q in b by k",
            "index d of q in b by k keep all all", "index d of q in b keep all by k", "index d in b by k keep all",
            "index d of q in c by k keep all", "index d of q in b by n keep all", "index d of q from b by k keep all",
            "index d of q in b by q.k keep all", "index d at q in b by k keep all", "index d of q in b by k with all",
            "index d of q in b at k keep all", "index dD of q in b by k keep all", "index d of q2 in b by k keep all",
            "index d of q in b by k keep all where", "index d of q in b by k keep all until q.k = 1",
            "index d of q in b by k keep all where q.k = 1 until q.k = 2", "index d of q in b by k keep all where some q",
            "index d of q in b by k keep all where q is q", "index d of q in b by k keep all where q before q",
            "index d of q in b by k keep all where r.k = 1", "index d of q in b by k keep all where q.n = 1",
            "index d of q in b by k keep all where d has q.k", "index d of q in b by k keep all where not some q",
            "index d of q in b by k keep all where " + " and ".join(["q.k = 1"] * 5),
            "index d of q in b by k keep all where q.k = 1 and", "index d of q in b by k keep all and q.k = 1",
        ]:
            self.wrong(HEAD + line, 3)
            self.wrong(HEAD + "index e of q in a by k keep first\n" + line + "\nput w", 4)

    def test_another_index_in_its_where(self):
        line = "index d of q in b by k keep all where e has q.k"
        self.wrong(HEAD + "index e of q in b by k keep first\n" + line, 4)

    def test_names(self):
        self.wrong(HEAD + "index a of q in b by k keep all", 3)
        self.wrong(HEAD + "index d of a in b by k keep all", 3)
        self.wrong(HEAD + "index d of d in b by k keep all", 3)
        self.wrong(HEAD + "index d of q in b by k keep all\nindex d of q in a by k keep all", 4)
        self.wrong(HEAD + "index d of q in b by k keep all\nindex q of r in a by k keep all", 4)
        self.wrong(HEAD + "index d of q in b by k keep all\nindex e of d in a by k keep all", 4)
        self.right(HEAD + "index d of q in b by k keep all\nindex e of q in a by n keep all where q.n = 1")

    def test_its_row_is_named_in_this_line_alone(self):
        head = HEAD + "index d of q in b by k keep all\n"
        self.right(head + "find q in a where q.n = 1")
        self.right(head + "each q in a\nend")
        self.wrong(head + "put w q.k", 4)
        self.wrong(head + "if some q\nend", 4)
        self.wrong(head + "find q in a where q.v = 1", 4)


class StatementsTest(ReadingCase):
    def test_right_ones(self):
        for line in [
            "find x in a", "find x in a where x.k = 1", "find x in a until x.k = 1", "last x in a where 1 = 1 until 2 < 1",
            "find x from da at 1", "last x from da at -5 where x.v = 1 until x.v = 2", "last x from da at 0 until some x",
            "get x from df at 3", "need x from dl at 99999999999999999999", "put w", "put w 1 2 3", "put w -1 0",
            "next", "find x in b where x is x and not x before x and not some x and x.k < x.v",
        ]:
            self.right(HEAD + INDEXES + line)
        for line in [
            "each x in a", "each x in a where x.k = 1 and x.n < 2", "each x from da at 3", "each x from da at 3 where x.v = 1",
            "if 1 = 1", "if da has 1", "if not df has 1 and dl has 2 and not 1 < 2 and 0 = 0",
        ]:
            self.right(HEAD + INDEXES + line + "\nend")

    def test_wrong_forms(self):
        for line in [
            "find", "find x", "find x in", "find x in c", "find x of a", "find x in a b", "find in a", "find x in da",
            "find x from a at 1", "find x from da", "find x from da at", "find x from da at 1 2", "find x in a at 1",
            "find x from da in a", "find x from dz at 1", "find x in a where", "find x in a until", "find x in a where until",
            "find x in a where x.k = 1 until", "find x in a until x.k = 1 where x.n = 1", "find x in a x.k = 1",
            "find x in a where x.k = 1 where x.k = 2", "find x in a until x.k = 1 until x.n = 2",
            "find x from df at 1", "find x from dl at 1", "last x from df at 1", "find x from da at x.k",
            "last x from da at y.k", "get x in a", "get x from da at 1", "need x from da at 1", "need x in b",
            "get x from df at 1 where x.k = 1", "need x from df at 1 where x.k = 1", "get x from df at 1 until x.k = 1",
            "get x from df", "get x from df at", "get x from df at 1 2", "get x from df at x.k", "need x from dl at x.n",
            "put", "put w 1 2 3 4", "put 1", "put w x.k", "put w w", "put w 01", "put w.k", "put w 1.k", "put W",
            "next next", "next 1", "if", "else", "end", "if 1", "if some x", "goto 3", "Find x in a", "find x in A",
            "find X in a", "each x from df at 1", "each x from dl at 1", "each x from da at x.k", "each x",
            "each x in a until x.k = 1", "each x in a where x.k = 1 until x.n = 2", "each x in a where", "put where",
            "find x in a where da has 1", "find x in a until da has x.k", "each x in a where df has x.k",
            "last x from da at 1 where da has 1", "if dz has 1", "if a has 1", "if da has", "if has 1", "if da has x.k",
            "if da has da", "if 1 = 1 and", "if and 1 = 1", "if 1 = 1 and and 2 = 2", "if 1 = 1 or 2 = 2", "if not",
            "if not not 1 = 1", "if 1 = not 1", "if 1 > 0", "if 1 <= 2", "if 1 = 1 = 1", "if 1 is 1", "if some 1",
            "if " + " and ".join(["1 = 1"] * 5), "find x in a where " + " and ".join(["1 = 1"] * 5),
            "find x in a until " + " and ".join(["1 = 1"] * 5), "if some", "if some not", "if 1=1",
            "find x from da in 1", "last x from da by 1", "each x from da of 1", "get x from df by 1", "need x of df at 1",
            "if da df", "if any da", "if put w", "find x in a where any x", "find x in a where not x", "find x in a where x",
        ]:
            self.wrong(HEAD + INDEXES + line, 6)
            self.wrong(HEAD + INDEXES + "put w\nput w\n" + line + "\nput w\nrubbish", 8)

    def test_four_conditions(self):
        four = " and ".join(["1 = 1"] * 4)
        self.right(HEAD + f"find x in a where {four} until {four}\nif {four}\nend\neach y in a where {four}\nend")

    def test_written_integers(self):
        for word in ["0", "5", "10", "-1", "-10", "12345678901234567890", "-12345678901234567890"]:
            self.right(HEAD + "put w " + word)
        for word in [
            "-0", "00", "01", "-01", "+1", "--1", "1-", "1_0", "1.0", "1e3", "0x1", "-", "123456789012345678901",
            "-123456789012345678901", "1,0", "\u0661", "1\u00b2",
        ]:
            self.wrong(HEAD + "put w " + word, 3)

    def test_terms(self):
        head = HEAD + "find x in a\n"
        self.right(head + "put w x.k x.n")
        for word in ["x", "x.", ".k", "x.v", "x.k.n", "x..k", "y.k", "a.k", "X.k", "x.K", "k", "x,k", "x.k."]:
            self.wrong(head + "put w " + word, 4)
            self.wrong(head + f"if {word} = 1\nend", 4)
            self.wrong(head + f"if 1 < {word}\nend", 4)

    def test_columns_and_words_of_put_that_are_named_like_others(self):
        self.right(
            "table a a b\ntable b d x\nindex d of q in b by d keep all where q.x = q.d\n"
            "each x in a where x.a = x.b\nfind p in b where p.x = x.a\nput x x.a\nput a p.x\nput d p.d\nput p\nput q\nend"
        )


class BlocksTest(ReadingCase):
    def test_else_and_end_that_belong_to_nothing(self):
        self.wrong_last(HEAD + "end")
        self.wrong_last(HEAD + "else")
        self.wrong_last(HEAD + "put w\nend")
        self.wrong_last(HEAD + "if 1 = 1\nend\nend")
        self.wrong_last(HEAD + "if 1 = 1\nend\nelse")
        self.wrong_last(HEAD + "each x in a\nelse")
        self.wrong_last(HEAD + "if 1 = 1\nelse\nelse")
        self.wrong_last(HEAD + "if 1 = 1\neach x in a\nelse")
        self.wrong_last(HEAD + "if 1 = 1\nelse\neach x in a\nelse")
        self.wrong(HEAD + "if 1 = 1\nelse 1\nend", 4)
        self.wrong(HEAD + "if 1 = 1\nend if", 4)

    def test_lines_may_be_lacking(self):
        self.right(HEAD + "each x in a\nend\nif 1 = 1\nelse\nend\nif 1 = 1\nend")

    def test_five_open_blocks(self):
        five = "\n".join(["if 1 = 1"] * 5)
        self.right(HEAD + five + "\nput w" + "\nend" * 5)
        self.wrong(HEAD + five + "\nif 1 = 1", 8)
        self.wrong(HEAD + five + "\neach x in a", 8)
        self.right(HEAD + five + "\nend\nif 2 = 2" + "\nend" * 5)
        self.right(HEAD + five + "\nelse\nend\nif 2 = 2" + "\nend" * 5)
        self.wrong(HEAD + five + "\nelse\nif 2 = 2", 9)

    def test_three_open_loops(self):
        three = "each x in a\neach y in b\neach z in a\n"
        self.right(HEAD + three + "if some x\nif some y\nput w\nend\nend\nend\nend\nend")
        self.wrong(HEAD + three + "each u in a", 6)
        self.right(HEAD + three + "end\neach u in a\nend\nend\nend\neach v in a\nend")
        self.wrong(HEAD + "if 1 = 1\n" + three + "each u in a", 7)
        self.right(HEAD + "if 1 = 1\n" + three + "if 1 = 1\nend\nend\nend\nend\nend")
        self.wrong(HEAD + "if 1 = 1\nif 1 = 1\n" + three + "if 1 = 1", 8)


class RowsTest(ReadingCase):
    def test_names_differ_from_tables_and_indexes(self):
        head = HEAD + "index d of q in b by k keep all\n"
        for line in ["find {} in a", "last {} from d at 1", "each {} in a", "each {} from d at 1"]:
            self.wrong(head + line.format("a"), 4)
            self.wrong(head + line.format("d"), 4)
            self.wrong(head + "put w\n" + line.format("b"), 5)
        self.wrong(HEAD + "index d of q in b by k keep last\nget b from d at 1", 4)
        self.wrong(HEAD + "index d of q in b by k keep last\nneed d from d at 1", 4)

    def test_a_name_belongs_to_one_table(self):
        self.right(HEAD + "find x in a\nlast x in a\nput w x.n")
        self.wrong(HEAD + "find x in a\nlast x in b", 4)
        self.wrong(HEAD + "if 1 = 1\nfind x in a\nelse\nfind x in b\nend", 6)
        self.wrong(HEAD + "index d of q in b by k keep all\nfind x in a\nfind x from d at 1", 5)
        self.right(HEAD + "index d of q in b by k keep all\nfind x in b\nfind x from d at x.v")
        self.wrong(HEAD + "index d of q in b by k keep last\nget x from d at 1\nfind x in a", 5)

    def test_the_row_of_a_loop_is_set_by_it_alone(self):
        self.wrong(HEAD + "find x in a\neach x in a\nend", 4)
        self.wrong(HEAD + "each x in a\nend\neach x in a\nend", 5)
        self.wrong(HEAD + "each x in a\nend\nfind x in a", 5)
        self.wrong(HEAD + "each x in a\nlast x in a\nend", 4)
        self.wrong(HEAD + "each x in a\neach x in a\nend\nend", 4)
        self.wrong(HEAD + "index d of q in a by k keep last\neach x in a\nget x from d at 1\nend", 5)
        self.wrong(HEAD + "index d of q in a by k keep last\neach x in a\nend\nneed x from d at 1", 6)
        self.wrong(HEAD + "index d of q in a by k keep all\nfind x in a\neach x from d at 1\nend", 5)

    def test_names_that_are_read_are_set_above(self):
        self.right(HEAD + "if 1 = 1\nfind x in a\nend\nput w x.k")
        self.right(HEAD + "each y in b\nfind x in a\nend\nput w x.k y.v\nif x is x and some y\nend")
        self.right(HEAD + "if 1 = 1\nelse\nfind x in a\nend\nfind y in b where y.k = x.k")
        self.wrong(HEAD + "put w x.k\nfind x in a", 3)
        self.wrong(HEAD + "find y in b where y.k = x.k\nfind x in a", 3)
        self.wrong(HEAD + "find y in b until some x", 3)
        self.wrong(HEAD + "each y in b where x is y\nend", 3)
        self.wrong(HEAD + "if some x\nfind x in a\nend", 3)

    def test_a_line_reads_its_own_row_in_its_conditions_alone(self):
        head = HEAD + "index d of q in b by k keep all\nindex e of q in b by k keep first\n"
        self.right(head + "find x from d at 1 where x.k = 1 until x.v = 2")
        self.right(head + "each x from d at 1 where x.k = 1\nend")
        self.wrong(head + "find x from d at x.k", 5)
        self.wrong(head + "each x from d at x.k\nend", 5)
        self.wrong(head + "get x from e at x.k", 5)
        self.right(head + "find x in b\nfind x from d at x.v\nget x from e at x.v\nneed x from e at x.k")

    def test_rows_of_the_same_table(self):
        head = HEAD + "find x in a\nfind y in b\nfind z in b\n"
        for word in ["is", "before"]:
            self.right(head + f"if y {word} z and not z {word} y and x {word} x\nend")
            self.wrong(head + f"if x {word} y\nend", 6)
            self.wrong(head + f"if y {word} u\nend", 6)
            self.wrong(head + f"if y.k {word} z.k\nend", 6)
            self.wrong(head + f"find u in a where u {word} y", 6)
            self.right(head + f"find u in b where u {word} y until z {word} u")

    def test_of_two_lines_that_contradict_each_other_the_later_one_is_wrong(self):
        self.wrong(HEAD + "find x in a\nput w\nfind x in b\nput w x.v", 5)
        self.wrong(HEAD + "find x in a\nput w x.v\nfind x in b", 4)


if __name__ == "__main__":
    unittest.main()
