"""On which side marks stand."""

LEFT = 0
RIGHT = 1


def sides_of(row, kind):
    """For each mark in a row and a kind the tuple (left, right): how often it stands on each side."""
    sides = {}
    todo = [(kind, RIGHT)] + [(given, LEFT) for name, given in row]
    while todo:
        part, side = todo.pop()
        if part[0] == "mark":
            left, right = sides.get(part[1], (0, 0))
            sides[part[1]] = (left + 1, right) if side == LEFT else (left, right + 1)
        elif part[0] == "to":
            todo.extend([(part[1], LEFT if side == RIGHT else RIGHT), (part[2], side)])
        elif part[0] == "both":
            todo.extend([(part[1], side), (part[2], side)])
    return sides


def stand_once(row, kind):
    """Whether each mark in a row and a kind stands at most once on each side."""
    return all(max(counts) <= 1 for counts in list(sides_of(row, kind).values()))
