"""The places at which steps can be done."""

from kindfill.programs import placed_in


def can_step(part):
    """Whether a step can be done at a part."""
    if part[0] == "give":
        return part[1][0] == "take"
    return part[0] in ("first", "second") and part[1][0] == "pair"


def step_places(program):
    """The places at which steps can be done, a part ahead of its own parts."""
    places = []
    todo = [(program, [])]
    while todo:
        part, place = todo.pop()
        if can_step(part):
            places.append(place)
        todo.extend(placed_in(part, place)[::-1])
    return places
