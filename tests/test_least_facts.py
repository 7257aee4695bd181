import itertools
import random
import unittest

from lookuploops.facts import Facts
from lookuploops.programs import Program
from lookuploops.questions import alike, least_facts

HEAD = "table a k n\ntable b k v\n"
FIND = Program(HEAD + "each x in a\nfind y in b where y.k = x.k\nput w y.v\nend")
LAST = Program(HEAD + "each x in a\nlast y in b where y.k = x.k\nput w y.v\nend")
NEED = Program(HEAD + "index d of q in b by k keep last\neach x in a\nneed y from d at x.k\nput w y.v\nend")
GET = Program(HEAD + "index d of q in b by k keep first\neach x in a\nget y from d at x.k\nput w y.v\nend")
EARLY = Program(HEAD + "each x in a\nfind y in b where y.k = x.k until x.k < y.k\nput w y.v\nend")
POOL = ["unique b.k", "single b", "sorted b.k", "found a.k in b.k", "single a", "filled b", "unique a.k", "filled a"]


class LeastFactsTest(unittest.TestCase):
    def least(self, one, other, *lines):
        return least_facts(one, other, Facts(one.schema, list(lines)))

    def test_alike_without_facts(self):
        self.assertEqual(self.least(FIND, FIND, "unique b.k", "single b"), [[]])
        self.assertEqual(self.least(FIND, FIND), [[]])

    def test_not_alike_under_all(self):
        self.assertEqual(self.least(FIND, LAST), [])
        self.assertEqual(self.least(FIND, LAST, "unique b.v", "sorted b.k", "found a.k in b.k", "filled a", "filled b"), [])

    def test_one_fact_is_enough(self):
        self.assertEqual(self.least(FIND, LAST, "unique b.k"), [["unique b.k"]])
        told = self.least(FIND, LAST, "filled b", "single b", "sorted b.k", "unique b.k")
        self.assertEqual(told, [["single b"], ["unique b.k"]])
        told = self.least(FIND, LAST, "unique b.k", "filled b", "single b")
        self.assertEqual(told, [["unique b.k"], ["single b"]])

    def test_several_facts(self):
        told = self.least(FIND, NEED, "found a.k in b.k", "unique b.k", "single b")
        self.assertEqual(told, [["found a.k in b.k", "unique b.k"], ["found a.k in b.k", "single b"]])
        told = self.least(FIND, NEED, "single b", "unique b.k", "filled a", "found a.k in b.k")
        self.assertEqual(told, [["single b", "found a.k in b.k"], ["unique b.k", "found a.k in b.k"]])

    def test_shorter_lists_come_first(self):
        told = self.least(FIND, LAST, "unique b.v", "found b.v in a.n", "single a", "unique b.k")
        self.assertEqual(told, [["unique b.k"], ["found b.v in a.n", "single a"]])

    def test_lists_are_new(self):
        given = Facts(FIND.schema, ["unique b.k"])
        least_facts(FIND, LAST, given)[0].append("more")
        self.assertEqual([given.lines, least_facts(FIND, LAST, given)], [["unique b.k"], [["unique b.k"]]])

    def test_as_alike_tells(self):
        several = 0
        for seed in range(60):
            source = random.Random(seed)
            one, other = source.sample([FIND, LAST, NEED, EARLY, GET], 2)
            given = Facts(one.schema, source.sample(POOL, 5))
            told = []
            for size in range(len(given.lines) + 1):
                for chosen in itertools.combinations(given.lines, size):
                    if not any(set(least) <= set(chosen) for least in told):
                        if alike(one, other, under=Facts(one.schema, list(chosen))):
                            told.append(list(chosen))
            self.assertEqual(least_facts(one, other, given), told, (one.text, other.text, given.lines))
            several += any(len(least) > 1 for least in told)
        self.assertGreater(several, 5)


if __name__ == "__main__":
    unittest.main()
