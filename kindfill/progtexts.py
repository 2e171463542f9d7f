"""The texts of programs, and of programs with gaps."""

from kindfill.errors import NoText
from kindfill.kindtexts import kind_of_words, shown_kind
from kindfill.programs import LENGTHS, is_program
from kindfill.words import is_name

HEAD = "=>"
GAP = "["
GAP_END = "]"
HALVES = {".1": "first", ".2": "second"}


def shown_program(program):
    """The text of a program."""
    words = []
    todo = [program]
    while todo:
        item = todo.pop()
        if isinstance(item, str):
            words.append(item)
        else:
            todo.extend(pieces_of(item)[::-1])
    return " ".join(words)


def pieces_of(part):
    """What a part is written as: words, and the programs between them."""
    word = part[0]
    if word == "name":
        return [part[1]]
    if word == "take":
        return ["(", part[1], ":", shown_kind(part[2]), HEAD, part[3], ")"]
    if word == "give":
        return ["(", part[1], part[2], ")"]
    if word == "pair":
        return ["{", part[1], ",", part[2], "}"]
    if word == "first":
        return [part[1], ".1"]
    if word == "second":
        return [part[1], ".2"]
    if word == "gap":
        return [GAP, shown_kind(part[1]), GAP_END]
    return ["#"]


def read_program(text):
    """The program that a text writes; NoText where it writes none."""
    program = draft_of_words(text.split(" "))
    # A part that is a gap is none of a program.
    if program is None or not is_program(program):
        raise NoText("the text writes no program")
    return program


def draft_of_words(words):
    """The program, perhaps with gaps, that words write, of whatever size, or None."""
    stack = []
    at = 0
    while at < len(words):
        # No program begins with a colon: where one stands, a take is written.
        if words[at] == "(" and words[at + 2:at + 3] == [":"]:
            end = end_from(words, at + 3, HEAD)
            fits = put_head(stack, words[at + 1], words[at + 3:end])
            at = end
        elif words[at] == GAP:
            end = end_from(words, at + 1, GAP_END)
            fits = put_gap(stack, words[at + 1:end], words[end:end + 1])
            at = end
        else:
            fits = put_word(stack, words[at])
        if not fits:
            return None
        at += 1
    return stack[0] if shape_of(stack) == ["program"] else None


def end_from(words, at, word):
    """Where a word stands next; behind the last word where it does not."""
    while at < len(words) and words[at] != word:
        at += 1
    return at


def put_head(stack, name, words):
    """Put the head of a take, up to its arrow, on the stack; False where it is none."""
    kind = kind_of_words(words)
    if kind is None or not is_name(name):
        return False
    stack.append((HEAD, name, kind))
    return True


def put_gap(stack, words, end):
    """Put a gap of the kind that words write on the stack; False where they write none, or the gap has no end."""
    kind = kind_of_words(words)
    if kind is None or not end:
        return False
    stack.append(("gap", kind))
    return True


def put_word(stack, word):
    """Put a word on the stack of programs and of signs that wait; False where it cannot stand there."""
    if word in ("(", "{", ","):
        stack.append((word,))
    elif word == "#":
        stack.append(("thing",))
    elif is_name(word):
        stack.append(("name", word))
    elif word in HALVES:
        return close(stack, ["program"], HALVES[word])
    elif word == "}":
        return close(stack, ["{", "program", ",", "program"], "pair")
    elif word == ")":
        return close_take(stack) or close(stack, ["(", "program", "program"], "give")
    else:
        return False
    return True


def close(stack, shape, word):
    """Put one program in the stead of what ends the stack; False where that has another shape."""
    start = len(stack) - len(shape)
    if start < 0 or shape_of(stack[start:]) != shape:
        return False
    inner = [item for item in stack[start:] if is_part(item)]
    stack[start:] = [(word, *inner)]
    return True


def close_take(stack):
    """Put a take in the stead of its head and a program; False where others stand there."""
    if shape_of(stack[-2:]) != [HEAD, "program"]:
        return False
    stack[-2:] = [("take", stack[-2][1], stack[-2][2], stack[-1])]
    return True


def shape_of(items):
    """What stands on a stack: "program" for each program or gap, and the signs."""
    return ["program" if is_part(item) else item[0] for item in items]


def is_part(item):
    """Whether a part stands on a stack, and no sign."""
    return item[0] in LENGTHS or item[0] == "gap"
