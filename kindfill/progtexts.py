"""The texts of programs."""

from kindfill.errors import NoText
from kindfill.kindtexts import kind_of_words, shown_kind
from kindfill.programs import LENGTHS, is_program
from kindfill.words import is_name

HEAD = "=>"
HALVES = {".1": "first", ".2": "second"}


def shown_program(program):
    """The text of a program."""
    words = []
    todo = [program]
    while todo:
        item = todo.pop()
        if isinstance(item, str):
            words.append(item)
        else:
            todo.extend(pieces_of(item)[::-1])
    return " ".join(words)


def pieces_of(part):
    """What a part is written as: words, and the programs between them."""
    word = part[0]
    if word == "name":
        return [part[1]]
    if word == "take":
        return ["(", part[1], ":", shown_kind(part[2]), HEAD, part[3], ")"]
    if word == "give":
        return ["(", part[1], part[2], ")"]
    if word == "pair":
        return ["{", part[1], ",", part[2], "}"]
    if word == "first":
        return [part[1], ".1"]
    if word == "second":
        return [part[1], ".2"]
    return ["#"]


def read_program(text):
    """The program that a text writes; NoText where it writes none."""
    program = program_of_words(text.split(" "))
    if program is None or not is_program(program):
        raise NoText("the text writes no program")
    return program


def program_of_words(words):
    """The program that words write, of whatever size, or None."""
    stack = []
    at = 0
    while at < len(words):
        # No program begins with a colon: where one stands, a take is written.
        if words[at] == "(" and words[at + 2:at + 3] == [":"]:
            arrow = arrow_from(words, at + 3)
            fits = put_head(stack, words[at + 1], words[at + 3:arrow])
            at = arrow
        else:
            fits = put_word(stack, words[at])
        if not fits:
            return None
        at += 1
    return stack[0] if shape_of(stack) == ["program"] else None


def arrow_from(words, at):
    """Where the next arrow of a take stands; behind the last word where there is none."""
    while at < len(words) and words[at] != HEAD:
        at += 1
    return at


def put_head(stack, name, words):
    """Put the head of a take, up to its arrow, on the stack; False where it is none."""
    kind = kind_of_words(words)
    if kind is None or not is_name(name):
        return False
    stack.append((HEAD, name, kind))
    return True


def put_word(stack, word):
    """Put a word on the stack of programs and of signs that wait; False where it cannot stand there."""
    if word in ("(", "{", ","):
        stack.append((word,))
    elif word == "#":
        stack.append(("thing",))
    elif is_name(word):
        stack.append(("name", word))
    elif word in HALVES:
        return close(stack, ["program"], HALVES[word])
    elif word == "}":
        return close(stack, ["{", "program", ",", "program"], "pair")
    elif word == ")":
        return close_take(stack) or close(stack, ["(", "program", "program"], "give")
    else:
        return False
    return True


def close(stack, shape, word):
    """Put one program in the stead of what ends the stack; False where that has another shape."""
    start = len(stack) - len(shape)
    if start < 0 or shape_of(stack[start:]) != shape:
        return False
    inner = [item for item in stack[start:] if item[0] in LENGTHS]
    stack[start:] = [(word, *inner)]
    return True


def close_take(stack):
    """Put a take in the stead of its head and a program; False where others stand there."""
    if shape_of(stack[-2:]) != [HEAD, "program"]:
        return False
    stack[-2:] = [("take", stack[-2][1], stack[-2][2], stack[-1])]
    return True


def shape_of(items):
    """What stands on a stack: "program" for each program, and the signs."""
    return ["program" if item[0] in LENGTHS else item[0] for item in items]
