import unittest

from lookuploops.errors import BadProgram, BadTables, NoLine
from lookuploops.programs import Program
from lookuploops.schema import Schema

HEAD = "table orders who\ntable people key boss pay\n"
LOOP = HEAD + "each x in orders\nfind p in people where p.key = x.who\nput pay x.who p.pay\nend"


class ExamplesTest(unittest.TestCase):
    def test_examples_of_the_document(self):
        loop = Program(LOOP)
        tables = {"orders": [(5,), (6,)], "people": [(5, 1, 10), (1, 1, 20), (5, 1, 30)]}
        told = sorted(loop(tables).items())
        self.assertEqual(told, [((("orders", 0),), [("pay", 5, 10)]), ((("orders", 1),), [("pay", 6, "none")])])
        table = Program(
            HEAD + "index d of p in people by key keep last\neach x in orders\nneed p from d at x.who\n"
            "get b from d at p.boss\nput pay p.pay b.pay\nend"
        )
        told = sorted(table(tables).items())
        self.assertEqual(told, [((("orders", 0),), [("pay", 30, 20)]), ((("orders", 1),), [("missing", 6)])])
        told = [loop.looks(tables), table.looks(tables), loop[4]]
        self.assertEqual(told, [6, 8, "find p in people where p.key = x.who"])

    def test_example_of_edges(self):
        edges = Program(
            "table a k\ntable b k v\nindex d of q in b by k keep all where 0 < q.v\neach x in a\n"
            "last y in b where y.k = x.k until 8 < y.v\nif d has x.k and not y.v = 3\nput one y.v\nnext\nelse\nput two\n"
            "end\neach z from d at x.k\nput three z.v\nend\nend\nput four y.v"
        )
        rows = {"a": [(1,), (2,), (3,)], "b": [(1, 0), (1, 3), (2, 9), (1, 7), (2, 4)]}
        told = sorted(edges(rows).items())
        self.assertEqual(told[:4], [
            ((), [("four", "none")]), ((("a", 0),), [("two",)]),
            ((("a", 0), ("b", 1)), [("three", 3)]), ((("a", 0), ("b", 3)), [("three", 7)]),
        ])
        self.assertEqual(told[4:], [((("a", 1),), [("one", "none")]), ((("a", 2),), [("two",)])])
        self.assertEqual(edges.looks(rows), 24)

    def test_examples_of_reading(self):
        with self.assertRaises(BadProgram) as caught:
            Program("table a k\neach x in a\nend\nfind x in a")
        self.assertEqual(caught.exception.line, 4)
        self.assertEqual(Program.over(Program(LOOP).schema, "put hi")[3], "put hi")

    def test_class_and_its_methods_are_defined_in_the_module(self):
        self.assertEqual(Program.__module__, "lookuploops.programs")
        for name in ["__init__", "schema", "__getitem__", "__iter__", "over", "__call__", "looks"]:
            self.assertIn(name, vars(Program))
        self.assertIsInstance(vars(Program)["schema"], property)
        self.assertIsInstance(vars(Program)["over"], classmethod)


class TextTest(unittest.TestCase):
    def test_text_and_lines(self):
        program = Program(LOOP)
        self.assertEqual(program.text, LOOP)
        self.assertEqual(list(program), LOOP.split("\n"))
        self.assertEqual([program[line] for line in range(1, 7)], LOOP.split("\n"))

    def test_lines_that_are_not_there(self):
        program = Program(LOOP)
        for line in [0, -1, -6, 7, 100]:
            with self.assertRaises(NoLine) as caught:
                program[line]
            self.assertEqual(caught.exception.line, line)

    def test_schema(self):
        schema = Program("table b k v\ntable a n\nindex d of q in a by n keep all\nput w").schema
        self.assertIsInstance(schema, Schema)
        self.assertEqual([schema.tables, schema.columns("b"), schema.columns("a")], [("b", "a"), ("k", "v"), ("n",)])

    def test_over(self):
        schema = Schema("table b k v\ntable a n")
        self.assertEqual(Program.over(schema, "").text, "table b k v\ntable a n")
        program = Program.over(schema, "find x in a\nput w x.n")
        self.assertIsInstance(program, Program)
        self.assertEqual(program.text, "table b k v\ntable a n\nfind x in a\nput w x.n")
        self.assertTrue(program.schema.fits(schema))
        self.assertEqual(Program.over(schema, "table c k\nput w").schema.tables, ("b", "a", "c"))

    def test_over_with_a_wrong_text(self):
        schema = Schema("table b k v\ntable a n")
        for text, line in [("find x in c", 3), ("put w\nput w x.n", 4), ("\n", 3), ("table a k", 3), ("if 1 = 1", 4)]:
            with self.subTest(text), self.assertRaises(BadProgram) as caught:
                Program.over(schema, text)
            self.assertEqual(caught.exception.line, line)


class TablesTest(unittest.TestCase):
    def test_wrong_tables(self):
        program = Program(LOOP)
        good = {"orders": [(5,)], "people": [(5, 1, 2)]}
        for tables, table in [
            ({}, "orders"), ({"orders": [(5,)]}, "people"), ({"people": [(5, 1, 2)]}, "orders"),
            ({**good, "orders": [(5, 6)]}, "orders"), ({**good, "people": [(5, 1, 2), (5, 1)]}, "people"),
            ({**good, "people": [(5, 1, "x")]}, "people"), ({**good, "people": [(5, 1, None)]}, "people"),
            ({**good, "orders": [(True,)]}, "orders"), ({**good, "zoo": [], "ants": []}, "ants"),
            ({"orders": [()], "people": [()], "ants": []}, "orders"), ({"people": [()], "orders": [(1,)]}, "people"),
        ]:
            for ask in (program, program.looks):
                with self.subTest(tables), self.assertRaises(BadTables) as caught:
                    ask(tables)
                self.assertEqual(caught.exception.table, table)

    def test_tables_are_not_changed_and_results_are_new(self):
        program = Program(LOOP)
        tables = {"orders": [(5,), (6,)], "people": [(5, 1, 10), (1, 1, 20), (5, 1, 30)]}
        before = {table: list(rows) for table, rows in tables.items()}
        one = program(tables)
        one[(("orders", 0),)].append("more")
        one.clear()
        self.assertEqual(tables, before)
        two = program(tables)
        self.assertEqual(two, {(("orders", 0),): [("pay", 5, 10)], (("orders", 1),): [("pay", 6, "none")]})
        self.assertTrue(all(type(path) is tuple and type(path[0]) is tuple for path in two))
        self.assertTrue(all(type(puts) is list and type(puts[0]) is tuple for puts in two.values()))
        program.looks(tables)
        self.assertEqual(tables, before)

    def test_rows_in_tuples(self):
        tables = {"orders": ((5,),), "people": ((5, 1, 10),)}
        self.assertEqual(Program(LOOP)(tables), {(("orders", 0),): [("pay", 5, 10)]})

    def test_great_integers(self):
        great = 10 ** 999
        tables = {"orders": [(great,), (great - 1,)], "people": [(great, 1, -great)]}
        told = Program(LOOP)(tables)
        self.assertEqual(told[(("orders", 0),)], [("pay", great, -great)])
        self.assertEqual(told[(("orders", 1),)], [("pay", great - 1, "none")])


if __name__ == "__main__":
    unittest.main()
