"""What tests of questions have in common."""

import unittest

from lookuploops.facts import Facts
from lookuploops.programs import Program
from lookuploops.questions import alike, parting
from sketches import tables_with


def rows_in_all(tables):
    return sum(len(rows) for rows in tables.values())


class PairCase(unittest.TestCase):
    head = "table a k n\ntable b k v\n"

    def facts(self, *lines):
        return Facts(Program(self.head.rstrip("\n")).schema, lines)

    def check_tables(self, tables, schema, under):
        """They are right, with all tables and plain rows, and keep the facts."""
        schema.check(tables)
        self.assertEqual(sorted(tables), sorted(schema.tables))
        self.assertTrue(all(type(row) is tuple for rows in tables.values() for row in rows))
        self.assertIsNone(under.broken(tables))

    def pair(self, one, other, many, *lines, values=(-1, 0, 1, 2)):
        """Two programs are alike under facts if `many` is None, or else tables with so many rows show that not."""
        one, other, under = Program(self.head + one), Program(self.head + other), self.facts(*lines)
        with self.subTest(one=one.text, other=other.text, under=lines):
            for first, second in [(one, other), (other, one)]:
                self.assertEqual(alike(first, second, under=under), many is None)
                tables = parting(first, second, under=under)
                if many is None:
                    self.assertIsNone(tables)
                    continue
                self.check_tables(tables, one.schema, under)
                self.assertNotEqual(first(tables), second(tables))
                self.assertEqual(rows_in_all(tables), many, tables)
            for total in range(3 if many is None else min(many, 3)):
                for tables in tables_with(one.schema, values, total):
                    if under.broken(tables) is None:
                        self.assertEqual(one(tables), other(tables))
