"""The desk: it keeps what a text told, answers rows about it, and takes boxes in or leaves them out."""

from hookrail.errors import NoBox, NoWord
from hookrail.reasons import least
from hookrail.rings import ring_least
from hookrail.ringtours import ring_tour
from hookrail.texts import is_box_word, is_number, is_possible, read, read_box, show, show_way
from hookrail.tours import tour
from hookrail.yards import yard_least
from hookrail.yardtours import yard_tour


def least_of(thing):
    if thing[0] == "ring":
        return ring_least(thing[1], thing[2], thing[3], thing[4])
    if thing[0] == "gate":
        return yard_least(thing[1], thing[2])
    return least(thing[1], thing[2], thing[3])


def tour_of(thing):
    if thing[0] == "ring":
        return ring_tour(thing[1], thing[2], thing[3], thing[4])
    if thing[0] == "gate":
        return yard_tour(thing[1], thing[2])
    return tour(thing[1], thing[2], thing[3])


def show_move(move):
    if move[0] == "go":
        return show_way(move[1:])
    return str(move[1]) + ":" + show_way(move[2:])


def with_box(thing, box):
    more = thing[:-1] + (thing[-1] + [box],)
    if not is_possible(more):
        raise NoBox("the box has a place that the yard or ring hasn't")
    return more


def without_box(thing, number):
    boxes = thing[-1]
    if number < 0 or number >= len(boxes):
        raise NoBox("no box has this number")
    return thing[:-1] + (boxes[:number] + boxes[number + 1:],)


class Desk:
    def __init__(self, text):
        self.told = read(text)

    def say(self, row):
        if not isinstance(row, str):
            raise NoWord("a row must be a text")
        if row == "least":
            return str(least_of(self.told))
        if row == "tour":
            return " ".join([show_move(move) for move in tour_of(self.told)])
        if row == "text":
            return show(self.told)
        return self.change(row.split(" "))

    def change(self, words):
        kind = self.told[0]
        if len(words) == 2 and words[0] == "add" and is_box_word(kind, words[1]):
            self.told = with_box(self.told, read_box(kind, words[1]))
        elif len(words) == 2 and words[0] == "drop" and is_number(words[1]):
            self.told = without_box(self.told, int(words[1]))
        else:
            raise NoWord("a row must be least, tour, text, add with a box or drop with a number")
        return "ok"
