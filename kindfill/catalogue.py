"""Kinds over some marks, numbered by their leaves."""

from kindfill.errors import NoNumber
from kindfill.kinds import leaves_of

MOST_LEAVES = 10


def kinds_many(marks, leaves):
    """How many kinds over the marks have so many leaves."""
    return many_to(marks, leaves)[leaves] if leaves > 0 else 0


def kind_at(marks, leaves, number):
    """The kind over the marks with so many leaves and a number; NoNumber where there is none."""
    many = many_to(marks, leaves)
    if leaves < 1 or not 0 <= number < many[leaves]:
        raise NoNumber("no kind of so many leaves has the number")
    return kind_with(marks, many, leaves, number)


def kind_number(marks, kind):
    """The tuple (leaves, number) of a kind over the marks; NoNumber where it is none, or has too many leaves."""
    leaves = leaves_of(kind)
    if leaves > MOST_LEAVES:
        raise NoNumber("kinds of so many leaves are not numbered")
    return number_with(marks, many_to(marks, leaves), kind)


def many_to(marks, leaves):
    """How many kinds over the marks have so many leaves, for each number up to leaves."""
    many = [0, len(marks) + 1]
    for whole in range(2, leaves + 1):
        many.append(sum([2 * many[ahead] * many[whole - ahead] for ahead in range(1, whole)]))
    return many


def kind_with(marks, many, leaves, number):
    """The kind with so many leaves and a number that there is."""
    if leaves == 1:
        return ("mark", marks[number]) if number < len(marks) else ("one",)
    ahead = 1
    while number >= 2 * many[ahead] * many[leaves - ahead]:
        number -= 2 * many[ahead] * many[leaves - ahead]
        ahead += 1
    word, number = divmod(number, many[ahead] * many[leaves - ahead])
    one, other = divmod(number, many[leaves - ahead])
    parts = (kind_with(marks, many, ahead, one), kind_with(marks, many, leaves - ahead, other))
    return ("to" if word == 0 else "both", *parts)


def number_with(marks, many, kind):
    """The tuple (leaves, number) of a kind; NoNumber where it has another mark."""
    if kind[0] == "one":
        return (1, len(marks))
    if kind[0] == "mark":
        if kind[1] not in marks:
            raise NoNumber("the kind has another mark")
        return (1, marks.index(kind[1]))
    ahead, one = number_with(marks, many, kind[1])
    behind, other = number_with(marks, many, kind[2])
    number = sum([2 * many[fewer] * many[ahead + behind - fewer] for fewer in range(1, ahead)])
    if kind[0] == "both":
        number += many[ahead] * many[behind]
    return (ahead + behind, number + one * many[behind] + other)
