"""Texts that tell an errand, a yard or a ring by words: how they are read and shown."""

from hookrail.errors import NoText
from hookrail.rails import is_errand
from hookrail.rings import is_ring
from hookrail.yards import is_yard

FIGURES = "0123456789"

# How many numbers stand behind each kind's first word.
HEADS = {"rail": 2, "gate": 1, "ring": 3}


def is_number(word):
    figures = word[1:] if word.startswith("-") else word
    if len(figures) < 1 or len(figures) > 40:
        return False
    # Not isdigit: it would let by figures of other scripts.
    if not all([sign in FIGURES for sign in figures]):
        return False
    # Neither noughts ahead nor -0.
    return word == "0" or not figures.startswith("0")


def is_pair(word):
    ends = word.split(">")
    return len(ends) == 2 and all([is_number(end) for end in ends])


def is_box_word(kind, word):
    if kind == "ring":
        return word[-1:] in ("+", "-") and is_pair(word[:-1])
    return is_pair(word)


def read_pair(word):
    return tuple([int(end) for end in word.split(">")])


def read_box(kind, word):
    if kind == "ring":
        way = 1 if word[-1] == "+" else -1
        return read_pair(word[:-1]) + (way,)
    return read_pair(word)


def is_possible(thing):
    if thing[0] == "ring":
        return is_ring(thing[1], thing[2], thing[3], thing[4])
    if thing[0] == "gate":
        return is_yard(thing[1], thing[2])
    return is_errand(thing[1], thing[2], thing[3])


def tells(words):
    kind = words[0]
    if kind not in HEADS:
        return False
    behind = 1 + HEADS[kind]
    if len(words) < behind or not all([is_number(word) for word in words[1:behind]]):
        return False
    return all([is_box_word(kind, word) for word in words[behind:]])


def read_words(words):
    kind = words[0]
    behind = 1 + HEADS[kind]
    head = tuple([int(word) for word in words[1:behind]])
    return (kind,) + head + ([read_box(kind, word) for word in words[behind:]],)


def read(text):
    if not isinstance(text, str):
        raise NoText("what is read must be a text")
    words = text.split(" ")
    if not tells(words):
        raise NoText("a text must begin with rail, gate or ring, and then its numbers and boxes as words")
    thing = read_words(words)
    if not is_possible(thing):
        raise NoText("a yard has no place left of its gate, and a ring has places from 0 on below its size alone")
    return thing


def show_way(parts):
    start = parts[0]
    goal = parts[1]
    # On a ring 1 or -1 stands behind the two places, elsewhere nothing.
    signs = "".join(["+" if way == 1 else "-" for way in parts[2:]])
    return f"{start}>{goal}{signs}"


def show(thing):
    head = [str(number) for number in thing[1:-1]]
    return " ".join([thing[0]] + head + [show_way(box) for box in thing[-1]])
