"""The desk: given names and drafts, told and asked by rows of words."""

from kindfill.deeds import done_by
from kindfill.deskrows import read_row
from kindfill.errors import NoUndo
from kindfill.questions import answer_to, is_question


class Desk:
    """A row of given names and drafts by their names, and what stood there ahead of each deed."""

    def __init__(self):
        # What stands there now comes last.
        self.states = [([], {})]

    def say(self, row):
        """The answer to a row of words; a refusal changes nothing."""
        words = read_row(row)
        given, drafts = self.states[-1]
        if is_question(words):
            return answer_to(given, drafts, words)
        if words[0] != "undo":
            self.states.append(done_by(given, drafts, words))
        elif len(self.states) > 1:
            self.states.pop()
        else:
            raise NoUndo("nothing is left to undo")
        return "ok"
