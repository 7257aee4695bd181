"""Questions about all tables that keep facts, decided for tables of any size."""

from lookuploops.errors import NoLine, OtherTables
from lookuploops.exploring import fewest_tables, some_tables
from lookuploops.facts import Facts
from lookuploops.keeping import keeps
from lookuploops.plans import chain_to, line_plan, loops_along, path_plan, shapes_of, statement_at
from lookuploops.rules import Rules

# The outcomes of the other statements, `put` and `next`, are no more than that they are done.
DECIDING = ("if", "find", "last", "get", "need", "each")


def alike(program, other, *, under=None):
    """Tell whether two programs have the same result for all tables that keep the facts."""
    check_both(program, other, under)
    return some_tables(rules_of(program, under), partings(program, other)) is None


def parting(program, other, *, under=None):
    """Return tables with the fewest rows for which the results differ, or None."""
    check_both(program, other, under)
    return fewest_tables(rules_of(program, under), partings(program, other))


def partings(program, other):
    """Return the tasks of which tables show one if the results differ for them."""
    one = program.source()
    two = other.source()
    shapes = shapes_of(one.statements)
    tasks = []
    for shape in shapes + [own for own in shapes_of(two.statements) if own not in shapes]:
        plans = [path_plan(one, shape), path_plan(two, shape)]
        if plans[0] != plans[1]:
            tasks.append((shape, plans))
    return tasks


def failures(program, *, under=None):
    """Return the list of the lines `need` that can fail."""
    check_over(program, under)
    needs = [number for number, statement in statements_of(program) if statement.word == "need"]
    return [number for number in needs if is_reached(program, under, number, False)]


def failing(program, line, *, under=None):
    """Return tables with the fewest rows for which a line `need` finds nothing, or None."""
    check_over(program, under)
    needs = [number for number, statement in statements_of(program) if statement.word == "need"]
    if line not in needs:
        raise NoLine(line)
    return fewest_tables(rules_of(program, under), reaching(program, line, False))


def settled(program, *, under=None):
    """Return the list of tuples (line, word) for the statements of which it is settled what they come to."""
    check_over(program, under)
    told = []
    for number, statement in statements_of(program):
        word = outcome(program, under, number, statement)
        if word is not None:
            told.append((number, word))
    return told


def outcome(program, under, number, statement):
    """Return the word for what a statement comes to, or None if it is not settled."""
    if statement.word not in DECIDING:
        return None if is_reached(program, under, number, None) else "unreached"
    holds = is_reached(program, under, number, True)
    if statement.word == "each":
        if holds:
            return None
        return "never" if is_reached(program, under, number, None) else "unreached"
    fails = is_reached(program, under, number, False)
    if holds and fails:
        return None
    if holds:
        return "always"
    return "never" if fails else "unreached"


def least_facts(program, other, given):
    """Return the smallest sets of given facts under which two programs are alike, as lists of lines."""
    check_both(program, other, given)
    tasks = partings(program, other)
    lines = given.lines
    shown = []
    least = []
    for chosen in subsets(len(lines)):
        if any(is_within(one, chosen) for one in least):
            continue
        under = Facts(program.schema, [lines[at] for at in chosen])
        if any(keeps_all(program.schema, tables, under) for tables in shown):
            continue
        tables = some_tables(rules_of(program, under), tasks)
        if tables is None:
            least.append(chosen)
        else:
            shown.append(tables)
    return [[lines[at] for at in chosen] for chosen in least]


def subsets(many):
    """Return the ascending lists of some of the integers below a limit, the shorter ones first, in order."""
    told = [[]]
    for size in range(many):
        shorter = [chosen for chosen in told if len(chosen) == size]
        for chosen in shorter:
            start = chosen[-1] + 1 if chosen else 0
            told.extend([chosen + [at] for at in range(start, many)])
    return told


def is_within(some, others):
    """Tell whether each of some integers is one of the others."""
    return all(one in others for one in some)


def keeps_all(schema, tables, under):
    """Tell whether tables keep each of some facts."""
    return all(keeps(schema, tables, fact) for fact in under.as_read())


def check_both(program, other, under):
    """Raise OtherTables if another program, or facts, are over other tables than a program."""
    if not program.schema.fits(other.schema):
        raise OtherTables()
    check_over(program, under)


def check_over(program, under):
    """Raise OtherTables if facts are over other tables than a program."""
    if under is not None and not under.are_over(program.schema):
        raise OtherTables()


def rules_of(program, under):
    """Return the rules for the facts, of which there may be none."""
    return Rules(program.schema, [] if under is None else under.as_read())


def statements_of(program):
    """Return the list of the tuples (line, statement) of a program, in the order of the lines."""
    statements = program.source().statements
    told = []
    for number, _ in enumerate(program, start=1):
        chain = chain_to(statements, number)
        if chain:
            told.append((number, statement_at(statements, chain)))
    return told


def is_reached(program, under, number, holds):
    """Tell whether for some tables a statement is done with this outcome."""
    return some_tables(rules_of(program, under), reaching(program, number, holds)) is not None


def reaching(program, number, holds):
    """Return the tasks of which tables show one if a statement is done with this outcome for them."""
    source = program.source()
    chain = chain_to(source.statements, number)
    shape = loops_along(source.statements, chain)
    statement = statement_at(source.statements, chain)
    if statement.word == "each" and holds:
        shape = shape + (statement.table,)
    return [(shape, [line_plan(source, chain, holds)])]
