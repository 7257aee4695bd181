"""Random programs: what is decided for all tables is compared with all small ones and some others."""

import itertools
import random
import unittest

from cases import rows_in_all
from lookuploops.exchanges import by_rows, thinned, ways
from lookuploops.errors import BadProgram, NoKey
from lookuploops.programs import Program
from lookuploops.questions import alike, failures, parting, settled
from naive import Naive
from sketches import changed_program, random_facts, random_program, random_tables, tables_with

VALUES = (-1, 0, 1, 3)


def tried_tables(source, schema, under, most, many=300):
    """Small tables that keep the facts, as many as are allowed in all, and some larger ones."""
    small = itertools.chain.from_iterable(tables_with(schema, VALUES, total) for total in range(most + 1))
    for tables in itertools.islice(small, many):
        if under.broken(tables) is None:
            yield tables
    yield from random_tables(source, schema, under, 60)


class RandomTest(unittest.TestCase):
    def sketch(self, seed):
        source = random.Random(seed)
        text = random_program(source)
        program = Program(text)
        return source, program, random_facts(source, program.schema, source.choice([0, 0, 1, 2, 4]))

    def test_parting(self):
        counts = {True: 0, False: 0}
        for seed in range(400):
            source, one, under = self.sketch(seed)
            other = Program(changed_program(source, one.text))
            told = parting(one, other, under=under)
            counts[told is None] += 1
            most = 3 if told is None else rows_in_all(told) - 1
            with self.subTest(seed=seed, one=one.text, other=other.text, under=under.lines):
                if told is not None:
                    self.assertIsNone(under.broken(told))
                    self.assertNotEqual(one(told), other(told))
                for tables in tried_tables(source, one.schema, under, most):
                    if rows_in_all(tables) <= most or told is None:
                        self.assertEqual(one(tables), other(tables), tables)
        self.assertGreater(min(counts.values()), 100)

    def test_settled_and_failures(self):
        for seed in range(1000, 1200):
            source, program, under = self.sketch(seed)
            noted = set()
            for tables in tried_tables(source, program.schema, under, 2):
                noted |= Naive(program.text, tables).noted
            with self.subTest(seed=seed, text=program.text, under=under.lines):
                told = dict(settled(program, under=under))
                for line, outcome in sorted(noted, key=str):
                    self.assertNotEqual(told.get(line), "unreached")
                    if outcome is not None:
                        self.assertNotEqual(told.get(line), "never" if outcome else "always")
                    if outcome is False and program[line].startswith("need"):
                        self.assertIn(line, failures(program, under=under))

    def test_exchanges(self):
        for seed in range(2000, 2150):
            source, program, under = self.sketch(seed)
            tried = list(tried_tables(source, program.schema, under, 2, 100))
            with self.subTest(seed=seed, text=program.text, under=under.lines):
                thin = thinned(program, under=under)
                for tables in tried:
                    self.assertEqual(program(tables), thin(tables))
                for line, text in enumerate(program, start=1):
                    if text[:5] in ("find ", "last "):
                        self.exchanges(program, line, under, tried)

    def exchanges(self, program, line, under, tried):
        try:
            changed = by_rows(program, line)
            self.assertTrue(alike(program, changed))
            for tables in tried:
                self.assertEqual(program(tables), changed(tables))
        except (NoKey, BadProgram):
            pass
        try:
            self.assertIn(program[line][:4], ways(program, line, under=under))
        except NoKey:
            pass


if __name__ == "__main__":
    unittest.main()
