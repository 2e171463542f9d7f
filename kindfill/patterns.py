"""Patterns of kinds: those that are alike share one."""

from kindfill.kinds import ends_of


def pattern_of(kind):
    """The pattern of a kind: a text that two kinds share just where they are bridged."""
    return " ".join(["[", *sorted(end_patterns(kind)), "]"])


def end_patterns(kind):
    """For each end of a kind its pattern, in order."""
    return [end_pattern(taken, mark) for taken, mark in ends_of(kind)]


def end_pattern(taken, mark):
    """The pattern of an end: its mark, behind the patterns of all ends of what it takes, whatever their order."""
    inner = sorted([pattern for kind in taken for pattern in end_patterns(kind)])
    return " ".join(["(", *inner, mark, ")"])
