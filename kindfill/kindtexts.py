"""The texts of kinds."""

from kindfill.errors import NoKind
from kindfill.kinds import LENGTHS, is_kind
from kindfill.words import is_mark

ARROW = "->"
STAR = "*"


def shown_kind(kind):
    """The text of a kind."""
    words = []
    todo = [kind]
    while todo:
        item = todo.pop()
        if isinstance(item, str):
            words.append(item)
        else:
            todo.extend(pieces_of(item)[::-1])
    return " ".join(words)


def pieces_of(kind):
    """What a kind is written as: words, and the kinds between them."""
    if kind[0] == "mark":
        return [kind[1]]
    if kind[0] == "one":
        return ["1"]
    if kind[0] == "to":
        return ["(", kind[1], ARROW, kind[2], ")"]
    return ["(", kind[1], STAR, kind[2], ")"]


def read_kind(text):
    """The kind that a text writes; NoKind where it writes none."""
    kind = kind_of_words(text.split(" "))
    if kind is None:
        raise NoKind("the text writes no kind")
    return kind


def kind_of_words(words):
    """The kind that words write, or None."""
    stack = []
    for word in words:
        if not put_word(stack, word):
            return None
    if shape_of(stack) != ["kind"] or not is_kind(stack[0]):
        return None
    return stack[0]


def put_word(stack, word):
    """Put a word on the stack of kinds and of signs that wait; False where it cannot stand there."""
    if word in ("(", ARROW, STAR):
        stack.append((word,))
    elif word == "1":
        stack.append(("one",))
    elif is_mark(word):
        stack.append(("mark", word))
    elif word == ")":
        return close_kind(stack)
    else:
        return False
    return True


def close_kind(stack):
    """Put one kind in the stead of a bracket, a kind, a sign and a kind; False where others stand there."""
    shape = shape_of(stack[-4:])
    if shape == ["(", "kind", ARROW, "kind"]:
        word = "to"
    elif shape == ["(", "kind", STAR, "kind"]:
        word = "both"
    else:
        return False
    stack[-4:] = [(word, stack[-3], stack[-1])]
    return True


def shape_of(items):
    """What stands on a stack: "kind" for each kind, and the signs."""
    return ["kind" if item[0] in LENGTHS else item[0] for item in items]
