"""What the document tells, done as plainly as can be by its words: slow, but short enough to be looked through.

Nothing of the package is used here but the ends and the ways of kinds, and the kinds of programs.
"""

from itertools import product
from random import Random

from samples import A, B, ONE, THING, both, first, give, name, pair, second, take, to

from kindfill.fitting import kind_of
from kindfill.kinds import ends_of, ways_of


def inner_of(program):
    """The programs that stand directly in a program."""
    if program[0] == "take":
        return [program[3]]
    return [] if program[0] == "name" else list(program[1:])


def parts(program):
    return 1 + sum(parts(inner) for inner in inner_of(program))


def names_in(program):
    """How many names stand in a program."""
    return (program[0] == "name") + sum(names_in(inner) for inner in inner_of(program))


def at_place(program, place):
    for step in place:
        program = inner_of(program)[step]
    return program


def put_at(program, place, other):
    """A program with another one at a place."""
    if not place:
        return other
    at = 3 if program[0] == "take" else 1 + place[0]
    inner = put_at(program[at], place[1:], other)
    return (*program[:at], inner, *program[at + 1:])


def tidy(program, taken=()):
    """A program tidied; taken: the names of the takes round it."""
    if program[0] == "name":
        numbers = [number for number, text in enumerate(taken) if text == program[1]]
        return name(f"x{numbers[-1]}") if numbers else program
    if program[0] == "take":
        return take(f"x{len(taken)}", program[2], tidy(program[3], (*taken, program[1])))
    return (program[0], *[tidy(inner, taken) for inner in program[1:]])


def unlike(program, counter, known):
    """A program in which no two takes have one name, all of them new ones."""
    if program[0] == "name":
        return name(known.get(program[1], program[1]))
    if program[0] == "take":
        counter.append(program[1])
        text = f"v{len(counter)}"
        return take(text, program[2], unlike(program[3], counter, {**known, program[1]: text}))
    return (program[0], *[unlike(inner, counter, known) for inner in program[1:]])


def put_for(program, text, other):
    """A program with another one for a name that no take in either takes again."""
    if program[0] == "name":
        return other if program[1] == text else program
    if program[0] == "take":
        return (*program[:3], put_for(program[3], text, other))
    return (program[0], *[put_for(inner, text, other) for inner in program[1:]])


def step_at(program, place):
    """A program behind the step at a place, tidied, by names that are all unlike."""
    program = unlike(program, [], {})
    part = at_place(program, place)
    if part[0] == "give":
        told = put_for(part[1][3], part[1][1], part[2])
    else:
        told = part[1][1 if part[0] == "first" else 2]
    return tidy(put_at(program, place, told))


def places_of(program, place=()):
    """The places at which steps can be done."""
    here = program[0] == "give" and program[1][0] == "take"
    here = here or program[0] in ("first", "second") and program[1][0] == "pair"
    told = [list(place)] if here else []
    for step, inner in enumerate(inner_of(program)):
        told += places_of(inner, (*place, step))
    return told


def form_of(row, program):
    """The plain long form of a program: it is worked out what the program does, and that is written down."""
    known = {text: shown_as(kind, lambda takes, text=text: name(text)) for text, kind in row}
    return written(kind_of(row, program), worth(program, known), 0)


def worth(program, known):
    """What a program does: of a function a function, of a pair a pair, of a mark's kind how it is written."""
    word = program[0]
    if word == "name":
        return known[program[1]]
    if word == "thing":
        return None
    if word == "take":
        return lambda given: worth(program[3], {**known, program[1]: given})
    one = worth(program[1], known)
    if word == "give":
        return one(worth(program[2], known))
    if word == "pair":
        return (one, worth(program[2], known))
    return one[0] if word == "first" else one[1]


def shown_as(kind, text):
    """What a program does of which only the text is known; the text hangs on how many takes stand round it."""
    if kind[0] == "mark":
        return text
    if kind == ONE:
        return None
    if kind[0] == "both":
        return (shown_as(kind[1], lambda takes: first(text(takes))), shown_as(kind[2], lambda takes: second(text(takes))))
    return lambda given: shown_as(kind[2], lambda takes: give(text(takes), written(kind[1], given, takes)))


def written(kind, told, takes):
    """What a program of a kind does, written down within so many takes."""
    if kind[0] == "mark":
        return told(takes)
    if kind == ONE:
        return THING
    if kind[0] == "both":
        return pair(written(kind[1], told[0], takes), written(kind[2], told[1], takes))
    taken = shown_as(kind[1], lambda more: name(f"x{takes}"))
    return take(f"x{takes}", kind[1], written(kind[2], told(taken), takes + 1))


def is_plain_long(names, kind, program, takes=0):
    """Whether a program is plain long; names: the tuples (name, kind) of those that are there."""
    if kind[0] == "one":
        return program == THING
    if kind[0] == "both":
        return program[0] == "pair" and all(is_plain_long(names, kind[at], program[at], takes) for at in (1, 2))
    if kind[0] == "to":
        if program[:3] != ("take", f"x{takes}", kind[1]):
            return False
        return is_plain_long([*names, (f"x{takes}", kind[1])], kind[2], program[3], takes + 1)
    for text, given in names:
        for moves, mark in ways_of(given):
            if mark == kind[1] and goes_along(names, text, moves, program, takes):
                return True
    return False


def goes_along(names, text, moves, program, takes):
    """Whether a program is a name with these moves behind it, with plain long programs given."""
    if not moves:
        return program == name(text)
    move = moves[-1]
    if move in (1, 2):
        return program[0] == ("first", "second")[move - 1] and goes_along(names, text, moves[:-1], program[1], takes)
    return (program[0] == "give" and goes_along(names, text, moves[:-1], program[1], takes)
            and is_plain_long(names, move, program[2], takes))


def longs(names, kind, size, takes=0):
    """All plain long programs of a kind with so many names, in no order that is promised."""
    if kind[0] == "one":
        return [THING] if size == 0 else []
    if kind[0] == "both":
        told = []
        for ahead in range(size + 1):
            ones = longs(names, kind[1], ahead, takes)
            if ones:
                told += [pair(*each) for each in product(ones, longs(names, kind[2], size - ahead, takes))]
        return told
    if kind[0] == "to":
        inner = longs([*names, (f"x{takes}", kind[1])], kind[2], size, takes + 1)
        return [take(f"x{takes}", kind[1], program) for program in inner]
    told = []
    for text, given in names if size else []:
        for moves, mark in ways_of(given):
            if mark == kind[1]:
                told += along(names, name(text), moves, size - 1, takes)
    return told


def along(names, program, moves, size, takes):
    """All that comes of a program by moves, in which plain long programs of so many names together are given."""
    if not moves:
        return [program] if size == 0 else []
    if moves[0] in (1, 2):
        return along(names, (first, second)[moves[0] - 1](program), moves[1:], size, takes)
    told = []
    for ahead in range(size + 1):
        for given in longs(names, moves[0], ahead, takes):
            told += along(names, give(program, given), moves[1:], size - ahead, takes)
    return told


def longs_to(names, kind, most):
    """All plain long programs of a kind with at most so many names."""
    return [program for size in range(most + 1) for program in longs(names, kind, size)]


def spelled_out(names, kind, program, takes=0):
    """The spelling of a plain long program, by the words of the document."""
    if kind == ONE:
        return []
    if kind[0] == "both":
        return spelled_out(names, kind[1], program[1], takes) + spelled_out(names, kind[2], program[2], takes)
    if kind[0] == "to":
        return spelled_out([*names, (f"x{takes}", kind[1])], kind[2], program[3], takes + 1)
    for index, (text, given) in enumerate(names):
        for way, (moves, mark) in enumerate(ways_of(given)):
            if mark == kind[1] and goes_along(names, text, moves, program, takes):
                told = []
                for move in reversed(moves):
                    if move not in (1, 2):
                        told = spelled_out(names, move, program[2], takes) + told
                    program = program[1]
                return [(index, way)] + told
    raise AssertionError("no plain long program")


def holds_at(tree, kind):
    """Whether a kind holds at the root of a tree."""
    if kind[0] == "mark":
        return kind[1] in tree[0]
    if kind[0] == "one":
        return True
    if kind[0] == "both":
        return holds_at(tree, kind[1]) and holds_at(tree, kind[2])
    return all(holds_at(world, kind[2]) or not holds_at(world, kind[1]) for world in worlds_in(tree))


def worlds_in(tree):
    """All worlds of a tree, each as the tree of those above it."""
    return [tree] + [world for inner in tree[1] for world in worlds_in(inner)]


def bars_plainly(row, kind, tree):
    """Whether a tree, which is one, bars a kind by a row."""
    grows = all(set(world[0]) <= set(inner[0]) for world in worlds_in(tree) for inner in world[1])
    return grows and all(holds_at(tree, given) for text, given in row) and not holds_at(tree, kind)


def programs_in_table(names, kind, table, takes=0):
    """The programs of a table, by the words of the document."""
    leaves = []
    for (taken, mark), leaf in zip(ends_of(kind), table):
        inner = [*names, *[(f"x{takes + at}", given) for at, given in enumerate(taken)]]
        ways = [(text, moves) for text, given in inner for moves, end in ways_of(given) if end == mark]
        assert len(ways) == len(leaf)
        told = []
        for (text, moves), entry in zip(ways, leaf):
            if entry[0] == "made":
                kinds = [move for move in moves if move not in (1, 2)]
                assert len(kinds) == len(entry[1])
                each = [programs_in_table(inner, given, below, takes + len(taken))
                        for given, below in zip(kinds, entry[1])]
                told += [put_along(name(text), moves, list(chosen)) for chosen in product(*each)]
        leaves.append(told)
    return [framed(kind, list(chosen), takes) for chosen in product(*leaves)]


def put_along(program, moves, given):
    for move in moves:
        if move in (1, 2):
            program = (first, second)[move - 1](program)
        else:
            program = give(program, given.pop(0))
    return program


def framed(kind, programs, takes):
    """A program of a kind, of the programs of its marks, which are taken off the list."""
    if kind[0] == "mark":
        return programs.pop(0)
    if kind == ONE:
        return THING
    if kind[0] == "both":
        one = framed(kind[1], programs, takes)
        return pair(one, framed(kind[2], programs, takes))
    return take(f"x{takes}", kind[1], framed(kind[2], programs, takes + 1))


def random_kind(random, leaves, ends=(A, B), functions=0.7):
    """Some kind of so many leaves."""
    if leaves == 1:
        return random.choice(ends)
    ahead = random.randint(1, leaves - 1)
    made = to if random.random() < functions else both
    return made(random_kind(random, ahead, ends, functions), random_kind(random, leaves - ahead, ends, functions))


def random_rows(seed, many, leaves=12, ends=(A, B, ("mark", "c")), functions=0.8):
    """Rows of given names and kinds, of at most so many leaves together."""
    random = Random(seed)
    told = []
    for _ in range(many):
        left, row = leaves, []
        for text in "pqrs"[:random.randint(0, 4)]:
            some = random.randint(1, 4)
            if some < left:
                row.append((text, random_kind(random, some, ends, functions)))
                left -= some
        told.append((row, random_kind(random, random.randint(1, left), ends, functions)))
    return told


def random_program(random, names, kind, budget):
    """Some program of a kind, mostly with steps to be done; None where none was found. names: tuples (name, kind)."""
    if budget <= 0 or random.random() < 0.25:
        fit = [name(text) for at, (text, given) in enumerate(names)
               if given == kind and text not in [other for other, _ in names[at + 1:]]]
        if fit:
            return random.choice(fit)
    if budget < -8:
        return None
    choice = random.random()
    if budget > 0 and choice < 0.3:
        other = random.choice([A, B, ONE, to(A, A), both(A, B), to(A, B)])
        function = random_program(random, names, to(other, kind), budget - 2)
        given = random_program(random, names, other, budget - 3)
        return function and given and give(function, given)
    if budget > 0 and choice < 0.5:
        word = random.choice([first, second])
        other = random.choice([A, ONE, to(A, B)])
        half = random_program(random, names, both(kind, other) if word is first else both(other, kind), budget - 2)
        return half and word(half)
    return random_frame(random, names, kind, budget)


def random_frame(random, names, kind, budget):
    """Some program of a kind by the form that the kind tells, or by a name that is a function."""
    if kind == ONE:
        return THING
    if kind[0] == "both":
        one = random_program(random, names, kind[1], budget - 1)
        other = random_program(random, names, kind[2], budget - 1)
        return one and other and pair(one, other)
    if kind[0] == "to":
        text = random.choice(["y", "z", "p", "x0", "x1", "x5"])
        inner = random_program(random, [*names, (text, kind[1])], kind[2], budget - 1)
        return inner and take(text, kind[1], inner)
    fit = [(text, given) for at, (text, given) in enumerate(names) if given[0] == "to" and given[2] == kind
           and text not in [other for other, _ in names[at + 1:]]]
    if not fit:
        return None
    text, function = random.choice(fit)
    given = random_program(random, names, function[1], budget - 2)
    return given and give(name(text), given)


def random_programs(seed, many, row, most=60):
    """Programs that have a kind by the row, with at most so many parts."""
    random = Random(seed)
    told = []
    while len(told) < many:
        kind = random_kind(random, random.randint(1, 4), (A, B, ONE))
        program = random_program(random, row, kind, random.randint(2, 9))
        if program and parts(program) <= most:
            assert kind_of(row, program) == kind
            told.append(program)
    return told
