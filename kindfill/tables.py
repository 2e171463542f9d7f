"""Tables: all plain long programs of a kind, told case by case."""

from kindfill.barring import bars_by
from kindfill.kinds import ends_of, ways_of
from kindfill.plans import moved, name_at, plan_of, put_together
from kindfill.rooms import kinds_in_moves
from kindfill.wholes import is_whole

DEEPEST = 40


def ways_there(scope, mark):
    """For each kind of those that are there, and each of its ways to a mark, a tuple (index, moves)."""
    told = []
    for index, kind in enumerate(scope):
        for moves, end in ways_of(kind):
            if end == mark:
                told.append((index, moves))
    return told


def is_table(row, kind, thing):
    """Whether a thing is a table of a kind by a row."""
    todo = [(tuple([given for name, given in row]), kind, thing, 1)]
    while todo:
        scope, kind, thing, depth = todo.pop()
        if depth > DEEPEST:
            return False
        inner = read_table(scope, kind, thing)
        if inner is None:
            return False
        for each in inner:
            todo.append((*each, depth + 1))
    return True


def read_table(scope, kind, thing):
    """What has to be tables for a thing to be a table, as tuples (scope, kind, thing); None where it is none."""
    ends = ends_of(kind)
    if not isinstance(thing, list) or len(thing) != len(ends):
        return None
    tables = []
    for (taken, mark), leaf in zip(ends, thing):
        inner = scope + tuple(taken)
        ways = ways_there(inner, mark)
        if not isinstance(leaf, list) or len(leaf) != len(ways):
            return None
        for (index, moves), entry in zip(ways, leaf):
            told = read_entry(inner, kinds_in_moves(moves), entry)
            if told is None:
                return None
            tables.extend(told)
    return tables


def read_entry(scope, kinds, entry):
    """What has to be tables for a thing to be an entry of a way with kinds, as in read_table, or None."""
    if not isinstance(entry, tuple) or len(entry) not in (2, 3) or not isinstance(entry[0], str):
        return None
    if len(entry) == 2:
        tables = entry[1]
        if entry[0] != "made" or not isinstance(tables, list) or len(tables) != len(kinds):
            return None
        return [(scope, kind, table) for kind, table in zip(kinds, tables)]
    word, number, tree = entry
    if word != "barred" or not is_whole(number) or not 0 <= number < len(kinds):
        return None
    return [] if bars_by(scope, kinds[number], tree) else None


def told_many(table):
    """How many programs a table tells."""
    many = 1
    for leaf in table:
        many *= sum([entry_many(entry) for entry in leaf])
    return many


def entry_many(entry):
    """How many programs an entry tells."""
    many = 1 if entry[0] == "made" else 0
    for table in entry[1] if many else []:
        many *= told_many(table)
    return many


def told_by(row, kind, table):
    """The programs that a table of a kind by a row tells, the last choice changing first."""
    return table_programs(row, tuple([given for name, given in row]), kind, table)


def table_programs(row, scope, kind, table):
    """The programs that a table tells, where there are names of the kinds in scope."""
    # So no program is put together that would stand in none of those that are told.
    if told_many(table) == 0:
        return []
    choices = []
    for (taken, mark), leaf in zip(ends_of(kind), table):
        choices.append(leaf_programs(row, scope + tuple(taken), mark, leaf))
    plan = plan_of(kind, scope, len(row))
    return [put_together(plan, chosen) for chosen in each_with_each(choices)]


def leaf_programs(row, scope, mark, leaf):
    """The programs that a leaf tells."""
    told = []
    for (index, moves), entry in zip(ways_there(scope, mark), leaf):
        if entry_many(entry) > 0:
            choices = []
            for kind, table in zip(kinds_in_moves(moves), entry[1]):
                choices.append(table_programs(row, scope, kind, table))
            name = name_at(row, index)
            told.extend([moved(name, moves, chosen) for chosen in each_with_each(choices)])
    return told


def each_with_each(choices):
    """All rows of one of each of several lists, the last one changing first."""
    told = [[]]
    for choice in choices:
        told = [chosen + [each] for chosen in told for each in choice]
    return told
