"""Which rooms have programs."""

from kindfill.rooms import dues_of, opened, room_with


class Living:
    """Which rooms have programs, and the rules of kinds, kept as they are found."""

    def __init__(self):
        self.rules = {}
        self.found = {}

    def has_program(self, room):
        """Whether a program of the room's mark can be made of what is there."""
        if room not in self.found:
            rooms, rows = opened([room], self.rules)
            for each, lives in zip(rooms, which_live(rows)):
                self.found[each] = lives
        return self.found[room]

    def lacking(self, texts, dues):
        """The rooms without a program of what is due where the kinds with the texts are there."""
        rooms = [room_with(texts, due) for due in dues]
        return [room for room in rooms if not self.has_program(room)]

    def lacking_of(self, texts, kind):
        """The first room without a program of what is due for a kind, or None where the kind has a program."""
        rooms = self.lacking(texts, dues_of(kind))
        return rooms[0] if rooms else None


def which_live(rows):
    """For each room of a book, by the rows of all, whether it has a program."""
    lives = [False for room in rows]
    grown = True
    while grown:
        grown = False
        for room, told in enumerate(rows):
            if not lives[room] and any(row_lives(inner, lives) for text, way, inner in told):
                lives[room] = True
                grown = True
    return lives


def row_lives(inner, lives):
    """Whether all rooms of a row have programs."""
    return all(lives[room] for room in inner)
