import unittest

from lookuploops.errors import (
    BadFact, BadName, BadTables, BrokenFact, LookError, NoName, NotAlike, NothingToUndo, OtherTables, Rests, Taken,
)
from lookuploops.facts import Facts
from lookuploops.programs import Program
from lookuploops.schema import Schema
from lookuploops.shelves import Shelf

HEAD = "table orders who\ntable people key boss pay\n"
LOOP = Program(HEAD + "each x in orders\nfind p in people where p.key = x.who\nput pay p.pay\nend")
LAST = Program(HEAD + "each x in orders\nlast p in people where p.key = x.who\nput pay p.pay\nend")
TABLE = Program(
    HEAD + "index d of p in people by key keep last\neach x in orders\nneed p from d at x.who\nput pay p.pay\nend"
)
OTHER = Program("table orders who\nput w")
UNIQUE = "unique people.key"
FOUND = "found orders.who in people.key"


class Stop(BaseException):
    """No exception that programs usually catch."""


def state(shelf):
    """All that a shelf tells of itself."""
    pairs = [(name, shelf.first(name).text, shelf[name].text) for name in shelf]
    return pairs, shelf.facts.lines


def history(shelf):
    """What a shelf tells while all is taken back; the shelf is as before then."""
    told = []

    def action(inner):
        while True:
            told.append(state(inner))
            inner.undo()

    try:
        shelf.attempt(action)
    except NothingToUndo:
        pass
    return told


class ShelfCase(unittest.TestCase):
    def setUp(self):
        self.shelf = Shelf(LOOP.schema)

    def raises(self, error, call, *args, **fields):
        """The call raises this very error with these fields, and changes nothing."""
        before = history(self.shelf)
        with self.assertRaises(LookError) as caught:
            call(*args)
        self.assertIs(type(caught.exception), error)
        told = vars(caught.exception)
        self.assertEqual({field: told[field] for field in fields}, fields)
        self.assertEqual(history(self.shelf), before)
        return caught.exception

    def replace(self, name, program):
        self.shelf[name] = program


class ExamplesTest(unittest.TestCase):
    def test_examples_of_the_document(self):
        shelf = Shelf(LOOP.schema)
        shelf.keep("pay", LOOP)
        shelf.declare([UNIQUE, FOUND])
        shelf["pay"] = TABLE
        told = [shelf["pay"][5], shelf.first("pay")[4], shelf.facts.lines, "pay" in shelf]
        self.assertEqual(told, [
            "need p from d at x.who", "find p in people where p.key = x.who",
            ["unique people.key", "found orders.who in people.key"], True,
        ])
        with self.assertRaises(BrokenFact) as caught:
            shelf.run("pay", {"orders": [(5,)], "people": [(5, 0, 1), (5, 0, 2)]})
        self.assertEqual(caught.exception.fact, "unique people.key")
        with self.assertRaises(BadFact) as caught:
            shelf.withdraw("sorted people.key")
        self.assertEqual(caught.exception.index, 0)
        shelf.undo()
        self.assertEqual([shelf["pay"][5], len(shelf.facts.lines)], ["put pay p.pay", 2])

    def test_class_and_its_methods_are_defined_in_the_module(self):
        self.assertEqual(Shelf.__module__, "lookuploops.shelves")
        for name in [
            "__init__", "keep", "__getitem__", "__setitem__", "first", "accept", "__contains__", "__iter__", "facts",
            "declare", "withdraw", "run", "undo", "attempt",
        ]:
            self.assertIn(name, vars(Shelf))
        self.assertIsInstance(vars(Shelf)["facts"], property)


class KeepTest(ShelfCase):
    def test_an_empty_shelf(self):
        self.assertEqual([list(self.shelf), "pay" in self.shelf, self.shelf.facts.lines], [[], False, []])
        self.assertIsInstance(self.shelf.facts, Facts)

    def test_keep(self):
        self.assertIsNone(self.shelf.keep("pay", LOOP))
        self.assertIs(self.shelf["pay"], LOOP)
        self.assertIs(self.shelf.first("pay"), LOOP)
        self.assertEqual(["pay" in self.shelf, "other" in self.shelf, "" in self.shelf], [True, False, False])

    def test_names_in_the_order_in_which_they_were_taken_in(self):
        for name in ["zoo", "ants", "bees"]:
            self.shelf.keep(name, LOOP)
        self.shelf["zoo"] = LOOP
        self.shelf.accept("ants")
        self.assertEqual(list(self.shelf), ["zoo", "ants", "bees"])
        self.shelf.undo()
        self.shelf.undo()
        self.shelf.undo()
        self.shelf.keep("ape", LAST)
        self.assertEqual(list(self.shelf), ["zoo", "ants", "ape"])

    def test_bad_names(self):
        for name in ["", "Pay", "pay two", "pay2", "abcdefghijklm", "find", "none", "pay\n", "a-b"]:
            self.raises(BadName, self.shelf.keep, name, LOOP, name=name)
        self.shelf.keep("abcdefghijkl", LOOP)
        self.shelf.keep("finds", LOOP)
        self.shelf.keep("orders", LOOP)

    def test_taken_names(self):
        self.shelf.keep("pay", LOOP)
        self.raises(Taken, self.shelf.keep, "pay", LOOP, name="pay")
        self.raises(Taken, self.shelf.keep, "pay", LAST, name="pay")

    def test_other_tables(self):
        self.raises(OtherTables, self.shelf.keep, "pay", OTHER)
        turned = Program("table people key boss pay\ntable orders who\nput w")
        self.shelf.keep("turned", turned)
        self.assertIs(self.shelf["turned"], turned)

    def test_which_error_is_raised(self):
        self.shelf.keep("pay", LOOP)
        self.raises(BadName, self.shelf.keep, "find", OTHER, name="find")
        self.raises(Taken, self.shelf.keep, "pay", OTHER, name="pay")


class ReplaceTest(ShelfCase):
    def setUp(self):
        super().setUp()
        self.shelf.keep("pay", LOOP)

    def test_an_alike_program(self):
        other = Program(LOOP.text.replace("p.key = x.who", "x.who = p.key"))
        self.shelf["pay"] = other
        self.assertIs(self.shelf["pay"], other)
        self.assertIs(self.shelf.first("pay"), LOOP)

    def test_under_declared_facts(self):
        self.shelf.declare([UNIQUE])
        self.shelf["pay"] = LAST
        self.raises(NotAlike, self.replace, "pay", TABLE, name="pay")
        self.shelf.declare([FOUND])
        self.shelf["pay"] = TABLE
        self.assertEqual([self.shelf["pay"], self.shelf.first("pay")], [TABLE, LOOP])

    def test_the_first_program_counts(self):
        self.shelf.declare([UNIQUE, FOUND])
        self.shelf["pay"] = TABLE
        self.shelf["pay"] = LAST
        self.assertEqual([self.shelf["pay"], self.shelf.first("pay")], [LAST, LOOP])

    def test_tables_that_show_it(self):
        error = self.raises(NotAlike, self.replace, "pay", LAST, name="pay")
        LOOP.schema.check(error.tables)
        self.assertEqual([len(error.tables["orders"]), len(error.tables["people"])], [1, 2])
        self.assertNotEqual(LOOP(error.tables), LAST(error.tables))
        self.shelf.declare([FOUND, "filled orders", "unique people.boss"])
        error = self.raises(NotAlike, self.replace, "pay", LAST, name="pay")
        self.assertIsNone(self.shelf.facts.broken(error.tables))
        self.assertEqual(sum(map(len, error.tables.values())), 3)

    def test_names_that_are_not_there(self):
        self.raises(NoName, self.replace, "other", LOOP, name="other")
        self.raises(NoName, self.replace, "find", OTHER, name="find")
        self.raises(NoName, self.shelf.__getitem__, "other", name="other")
        self.raises(NoName, self.shelf.first, "other", name="other")
        self.raises(NoName, self.shelf.accept, "", name="")

    def test_other_tables(self):
        self.raises(OtherTables, self.replace, "pay", OTHER)

    def test_accept(self):
        self.shelf.declare([UNIQUE])
        self.shelf["pay"] = LAST
        self.assertIsNone(self.shelf.accept("pay"))
        self.assertEqual([self.shelf["pay"], self.shelf.first("pay")], [LAST, LAST])
        self.shelf.withdraw(UNIQUE)
        self.raises(NotAlike, self.replace, "pay", LOOP, name="pay")


class FactsTest(ShelfCase):
    def test_declare(self):
        self.assertIsNone(self.shelf.declare([UNIQUE, "filled orders"]))
        self.shelf.declare((FOUND, UNIQUE))
        self.assertEqual(self.shelf.facts.lines, [UNIQUE, "filled orders", FOUND])
        self.shelf.declare([])
        self.assertEqual(self.shelf.facts.lines, [UNIQUE, "filled orders", FOUND])

    def test_bad_facts_are_counted_in_these_lines(self):
        self.shelf.declare([UNIQUE, FOUND])
        self.raises(BadFact, self.shelf.declare, ["rubbish"], index=0)
        self.raises(BadFact, self.shelf.declare, ["filled orders", UNIQUE, "filled zoo", "rubbish"], index=2)
        self.raises(BadFact, self.shelf.declare, ["filled orders", "found people.pay in orders.who"], index=1)
        self.raises(BadFact, self.shelf.declare, ["found orders.who in orders.who"], index=0)
        self.assertEqual(self.shelf.facts.lines, [UNIQUE, FOUND])

    def test_lines_are_copied(self):
        lines = [UNIQUE]
        self.shelf.declare(lines)
        lines.append(FOUND)
        self.shelf.facts.lines.append(FOUND)
        self.assertEqual([self.shelf.facts.lines, lines], [[UNIQUE], [UNIQUE, FOUND]])

    def test_withdraw(self):
        self.shelf.declare([UNIQUE, FOUND, "filled people"])
        self.assertIsNone(self.shelf.withdraw(FOUND))
        self.assertEqual(self.shelf.facts.lines, [UNIQUE, "filled people"])
        self.shelf.declare([FOUND])
        self.assertEqual(self.shelf.facts.lines, [UNIQUE, "filled people", FOUND])

    def test_withdraw_what_is_not_declared(self):
        self.shelf.declare([FOUND, "filled orders"])
        for line in ["rubbish", "", UNIQUE, "filled people", "filled  orders"]:
            self.raises(BadFact, self.shelf.withdraw, line, index=0)

    def test_programs_that_rest_on_a_fact(self):
        self.shelf.keep("one", LOOP)
        self.shelf.keep("two", LOOP)
        self.shelf.keep("three", LOOP)
        self.shelf.declare([UNIQUE, FOUND, "filled people"])
        self.shelf["three"] = TABLE
        self.shelf["two"] = LAST
        error = self.raises(Rests, self.shelf.withdraw, UNIQUE, name="two")
        self.assertNotEqual(LOOP(error.tables), LAST(error.tables))
        self.assertEqual(sum(map(len, error.tables.values())), 3)
        self.assertIsNone(Facts(LOOP.schema, [FOUND, "filled people"]).broken(error.tables))
        error = self.raises(Rests, self.shelf.withdraw, FOUND, name="three")
        self.assertNotEqual(LOOP(error.tables), TABLE(error.tables))
        self.assertEqual(sum(map(len, error.tables.values())), 2)
        self.shelf.withdraw("filled people")
        error = self.raises(Rests, self.shelf.withdraw, FOUND, name="three")
        self.assertEqual(error.tables, {"orders": error.tables["orders"], "people": []})
        self.assertEqual(len(error.tables["orders"]), 1)

    def test_a_fact_that_others_imply_can_be_withdrawn(self):
        self.shelf.keep("one", LOOP)
        self.shelf.declare([UNIQUE, "single people"])
        self.shelf["one"] = LAST
        self.shelf.withdraw(UNIQUE)
        self.raises(Rests, self.shelf.withdraw, "single people", name="one")

    def test_a_program_that_was_accepted_does_not_rest(self):
        self.shelf.keep("one", LOOP)
        self.shelf.declare([UNIQUE])
        self.shelf["one"] = LAST
        self.raises(Rests, self.shelf.withdraw, UNIQUE, name="one")
        self.shelf.accept("one")
        self.shelf.withdraw(UNIQUE)
        self.assertEqual(self.shelf.facts.lines, [])


class RunTest(ShelfCase):
    def test_run(self):
        self.shelf.keep("pay", LOOP)
        self.shelf.declare([UNIQUE])
        self.shelf["pay"] = LAST
        tables = {"orders": [(5,)], "people": [(5, 0, 1), (6, 0, 2)]}
        self.assertEqual(self.shelf.run("pay", tables), {(("orders", 0),): [("pay", 1)]})
        self.assertEqual(tables, {"orders": [(5,)], "people": [(5, 0, 1), (6, 0, 2)]})

    def test_the_present_program_runs(self):
        self.shelf.keep("pay", LOOP)
        self.shelf["pay"] = Program(LOOP.text + "\nfind q in people where 1 = 2")
        self.shelf.accept("pay")
        self.shelf.declare([UNIQUE, FOUND])
        self.shelf["pay"] = TABLE
        told = self.shelf.run("pay", {"orders": [(5,)], "people": [(5, 0, 1)]})
        self.assertEqual(told, {(("orders", 0),): [("pay", 1)]})

    def test_errors(self):
        self.shelf.keep("pay", LOOP)
        self.shelf.declare(["filled orders", UNIQUE, FOUND])
        good = {"orders": [(5,)], "people": [(5, 0, 1)]}
        self.raises(NoName, self.shelf.run, "other", {}, name="other")
        self.raises(BadTables, self.shelf.run, "pay", {}, table="orders")
        self.raises(BadTables, self.shelf.run, "pay", {"orders": [], "people": [(5,)]}, table="people")
        self.raises(BadTables, self.shelf.run, "pay", {**good, "zoo": []}, table="zoo")
        self.raises(BrokenFact, self.shelf.run, "pay", {"orders": [], "people": [(1, 0, 1), (1, 0, 2)]}, fact="filled orders")
        self.raises(BrokenFact, self.shelf.run, "pay", {**good, "people": [(1, 0, 1), (1, 0, 2)]}, fact=UNIQUE)
        self.raises(BrokenFact, self.shelf.run, "pay", {**good, "people": []}, fact=FOUND)

    def test_the_first_bad_table_is_that_of_the_program(self):
        self.shelf.keep("turned", Program("table people key boss pay\ntable orders who\nput w"))
        self.raises(BadTables, self.shelf.run, "turned", {}, table="people")


class UndoTest(ShelfCase):
    def test_nothing_to_undo(self):
        self.raises(NothingToUndo, self.shelf.undo)
        self.shelf.keep("pay", LOOP)
        self.assertIsNone(self.shelf.undo())
        self.raises(NothingToUndo, self.shelf.undo)

    def changes(self):
        """One change of each kind after the other."""
        shelf = self.shelf
        return [
            lambda: shelf.keep("pay", LOOP), lambda: shelf.declare([UNIQUE]), lambda: shelf.declare([]),
            lambda: self.replace("pay", LAST), lambda: self.replace("pay", LAST), lambda: shelf.accept("pay"),
            lambda: shelf.keep("other", LOOP), lambda: shelf.declare([FOUND, UNIQUE]), lambda: self.replace("other", TABLE),
            lambda: shelf.accept("other"), lambda: shelf.accept("other"), lambda: shelf.withdraw(FOUND),
        ]

    def test_one_by_one_down_to_the_beginning(self):
        before = []
        for change in self.changes():
            before.append(state(self.shelf))
            change()
        while before:
            self.assertIsNone(self.shelf.undo())
            self.assertEqual(state(self.shelf), before.pop())
        self.raises(NothingToUndo, self.shelf.undo)

    def test_each_change_can_be_taken_back_at_once(self):
        for change in self.changes():
            before = history(self.shelf)
            change()
            self.shelf.undo()
            self.assertEqual(history(self.shelf), before)
            change()

    def test_undo_is_no_change(self):
        self.shelf.keep("one", LOOP)
        self.shelf.keep("two", LOOP)
        self.shelf.undo()
        self.shelf.undo()
        self.assertEqual(list(self.shelf), [])
        self.raises(NothingToUndo, self.shelf.undo)

    def test_what_asks_is_no_change(self):
        self.shelf.keep("pay", LOOP)
        self.shelf.run("pay", {"orders": [], "people": []})
        self.shelf.first("pay")
        self.assertEqual([self.shelf["pay"], "pay" in self.shelf, list(self.shelf)], [LOOP, True, ["pay"]])
        self.shelf.undo()
        self.assertEqual(list(self.shelf), [])

    def test_a_failed_call_is_no_change(self):
        self.shelf.keep("pay", LOOP)
        for call in (lambda: self.replace("pay", LAST), lambda: self.shelf.keep("pay", LOOP),
                     lambda: self.shelf.declare(["rubbish"]), lambda: self.shelf.withdraw(UNIQUE)):
            self.assertRaises(LookError, call)
        self.shelf.undo()
        self.assertEqual(list(self.shelf), [])


class AttemptTest(ShelfCase):
    def test_it_returns_what_the_action_returns(self):
        self.assertEqual(self.shelf.attempt(lambda shelf: [shelf is self.shelf, 5]), [True, 5])
        self.assertIsNone(self.shelf.attempt(lambda shelf: None))
        self.raises(NothingToUndo, self.shelf.undo)

    def test_changes_are_taken_back_one_by_one(self):
        def action(shelf):
            shelf.keep("one", LOOP)
            shelf.declare([UNIQUE])
            shelf["one"] = LAST

        self.shelf.attempt(action)
        self.assertEqual(self.shelf["one"], LAST)
        self.shelf.undo()
        self.assertEqual([self.shelf["one"], self.shelf.facts.lines], [LOOP, [UNIQUE]])
        self.shelf.undo()
        self.assertEqual([list(self.shelf), self.shelf.facts.lines], [["one"], []])
        self.shelf.undo()
        self.raises(NothingToUndo, self.shelf.undo)

    def failed(self, error):
        def action(shelf):
            shelf.undo()
            shelf.keep("two", LOOP)
            shelf.declare([UNIQUE])
            shelf["one"] = LAST
            shelf.accept("one")
            raise error

        self.shelf.keep("one", LOOP)
        self.shelf.keep("three", LOOP)
        before = history(self.shelf)
        with self.assertRaises(type(error)) as caught:
            self.shelf.attempt(action)
        self.assertIs(caught.exception, error)
        self.assertEqual(history(self.shelf), before)
        self.assertEqual(list(self.shelf), ["one", "three"])

    def test_exceptions_of_any_class(self):
        for error in [ValueError("x"), KeyError(1), Stop(), KeyboardInterrupt(), SystemExit(), GeneratorExit(), BadFact(3)]:
            with self.subTest(error=error):
                self.setUp()
                self.failed(error)

    def test_errors_of_the_shelf_itself(self):
        self.shelf.keep("one", LOOP)

        def action(shelf):
            shelf.keep("two", LOOP)
            shelf["one"] = LAST

        self.raises(NotAlike, self.shelf.attempt, action, name="one")
        self.assertEqual(list(self.shelf), ["one"])

    def test_an_exception_that_the_action_catches(self):
        def action(shelf):
            shelf.keep("one", LOOP)
            try:
                shelf["one"] = LAST
            except NotAlike:
                shelf.keep("two", LAST)
            return "done"

        self.assertEqual(self.shelf.attempt(action), "done")
        self.assertEqual(list(self.shelf), ["one", "two"])

    def test_attempts_within_attempts(self):
        def inner(shelf):
            shelf.keep("inner", LOOP)
            raise Stop

        def outer(shelf):
            shelf.keep("outer", LOOP)
            try:
                shelf.attempt(inner)
            except Stop:
                shelf.keep("behind", LOOP)
            return shelf.attempt(lambda own: own.keep("finish", LOOP))

        self.shelf.keep("start", LOOP)
        self.assertIsNone(self.shelf.attempt(outer))
        self.assertEqual(list(self.shelf), ["start", "outer", "behind", "finish"])
        for many in [3, 2, 1, 0]:
            self.shelf.undo()
            self.assertEqual(len(list(self.shelf)), many)

    def test_an_inner_attempt_that_ended_well_in_one_that_fails(self):
        def outer(shelf):
            shelf.attempt(lambda own: own.keep("inner", LOOP))
            shelf.undo()
            shelf.undo()
            raise Stop

        self.shelf.keep("one", LOOP)
        self.assertRaises(Stop, self.shelf.attempt, outer)
        self.assertEqual(list(self.shelf), ["one"])
        self.shelf.undo()
        self.assertEqual(list(self.shelf), [])

    def test_undo_in_an_attempt_beyond_its_beginning(self):
        self.shelf.keep("one", LOOP)
        self.shelf.attempt(lambda shelf: shelf.undo())
        self.assertEqual(list(self.shelf), [])
        self.raises(NothingToUndo, self.shelf.attempt, lambda shelf: shelf.undo())


class SchemaTest(unittest.TestCase):
    def test_a_shelf_over_a_schema(self):
        shelf = Shelf(Schema("table people key boss pay\ntable orders who"))
        shelf.keep("pay", LOOP)
        shelf.declare([UNIQUE])
        shelf["pay"] = LAST
        self.assertEqual(shelf.run("pay", {"orders": [(5,)], "people": []}), {(("orders", 0),): [("pay", "none")]})

    def test_two_shelves_are_apart(self):
        one, other = Shelf(LOOP.schema), Shelf(LOOP.schema)
        one.keep("pay", LOOP)
        one.declare([UNIQUE])
        self.assertEqual([list(other), other.facts.lines], [[], []])
        self.assertRaises(NothingToUndo, other.undo)


if __name__ == "__main__":
    unittest.main()
