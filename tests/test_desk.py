import copy
import itertools
import random
import re
import unittest

from hookrail import errors
from hookrail.desk import Desk
from hookrail.reasons import least
from hookrail.rings import ring_least
from hookrail.ringtours import is_ring_tour, ring_length
from hookrail.tours import is_tour, length
from hookrail.yards import yard_least
from hookrail.yardtours import is_yard_tour
from oracles import (
    NUMBER, box_by_words, has_its_places, least_by_search, ring_least_by_search, text_by_words, thing_by_words,
    yard_least_by_search,
)
from samples import FAR, NO_TEXTS, check_refused, mixed_errands, mixed_rings, mixed_yards, told_things

MOST = FAR - 1

LEASTS = {"rail": least, "gate": yard_least, "ring": ring_least}
SEARCHES = {
    "rail": least_by_search,
    "gate": lambda gate, boxes: yard_least_by_search(gate, boxes, []),
    "ring": ring_least_by_search,
}
TOURS = {"rail": is_tour, "gate": is_yard_tour, "ring": is_ring_tour}

# Rows that are none, whatever the desk keeps.
NO_ROWS = [
    "", " ", "  ", "\t", "\n", "~", "leas", "least ", " least", "least\n", "\nleast", "least\t", "Least", "LEAST",
    "least 0", "least least", "least  ", "tour ", " tour", "tours", "tour 1", "tour\n", "Tour", "tour tour",
    "least tour", "text ", " text", "text\n", "texts", "text 0", "text text", "Text", "ok", "add", "add ", " add",
    "add  ", "drop", "drop ", " drop", "drop  ", "drop 0 ", " drop 0", "drop  0", "drop 0 0", "drop 0 1", "drop\t0",
    "drop 0\n", "drop\n0", "Drop 0", "drop0", "drops 0", "drop +0", "drop -0", "drop 00", "drop 01", "drop -01",
    "drop +1", "drop a", "drop 0.", "drop -", "drop --1", "drop 1>2", "drop 0:1>2", "drop 1" + 40 * "0",
    "drop -" + 41 * "9", "drop " + 41 * "0", "drop \u0660", "drop \uff11", "add 0", "add >", "add 1>", "add >1",
    "add 1", "add 1<2", "add 1>2>3", "add 1>>2", "add 0:1>2", "add box", "add 1,2", "rail 0 0", "gate 0", "ring 1 0 0",
    "1>2", "0", "-1", "read", "show", "say",
]

BOX_WORDS_OUT = [
    " #", "# ", "# #", "#\n", "\n#", "#\t", "\t#", "#,", "+#", "0#", "#>1", "#:", "0:#", "#x",
]


def rows_that_are_none(kind):
    """Rows that a desk of this kind refuses: those that are none at all, and boxes that are written otherwise."""
    sign = {"rail": "", "gate": "", "ring": "+"}[kind]
    rows = list(NO_ROWS)
    rows += ["add " + word.replace("#", "3>4" + sign) for word in BOX_WORDS_OUT]
    for number in ["", "-", "-0", "00", "01", "+1", "a", "1_0", 41 * "9", "1" + 40 * "0", "1\n", "\u0661"]:
        rows += [f"add {number}>4{sign}", f"add 4>{number}{sign}"]
    word = "3>4" + sign
    rows += [before + word for before in ("", " add ", "add  ", "Add ", "adds ", "add\t", "add\n", "add", "add add ")]
    rows += [before + word for before in ("least ", "tour ", "text ", "drop ", "box ", "least add ", "add 0 ")]
    rows += [f"add {word}{behind}" for behind in (" 0", " least", " add", " drop 0", ">", ":")] + [f"{word} add"]
    if kind == "ring":
        return rows + ["add 3>4", "add 3>4++", "add 3>4+-", "add 3>4 +", "add 3>4*", "add 3>+4", "add 3+>4"]
    return rows + ["add 3>4+", "add 3>4-", "add 3>3+", "add 3-4", "add 3>4 +"]


def moves_by_words(kind, words):
    """The moves that a tour's words tell."""
    sign = "[+-]" if kind == "ring" else ""
    moves = []
    for word in words.split(" ") if words else []:
        found = re.fullmatch(f"(?:({NUMBER}):)?({NUMBER})>({NUMBER})({sign})", word)
        way = {"": (), "+": (1,), "-": (-1,)}[found[4]]
        begun = ("go",) if found[1] is None else ("box", int(found[1]))
        moves.append(begun + (int(found[2]), int(found[3])) + way)
    return moves


def length_by_kind(thing, moves):
    return ring_length(thing[1], moves) if thing[0] == "ring" else length(moves)


DESKS = [
    "rail 0 0", "rail 3 -9 1>5 -7>2", "gate 0", "gate 0 1>5 7>2 4>4", "ring 1 0 0", "ring 24 0 6 3>9+ 9>3- 5>5+",
]


class Rows(unittest.TestCase):
    """Promise 27."""

    def check_answers(self, desk, thing):
        """That the desk tells what it is to keep by now: its text, its least length, and a tour of that length."""
        kind = thing[0]
        self.assertEqual(desk.say("text"), text_by_words(thing))
        told = desk.say("least")
        self.assertIsInstance(told, str)
        self.assertEqual(told, str(LEASTS[kind](*copy.deepcopy(thing[1:]))))
        moves = moves_by_words(kind, desk.say("tour"))
        self.assertIs(TOURS[kind](*thing[1:], moves), True, thing)
        self.assertEqual(str(length_by_kind(thing, moves)), told, thing)
        self.assertEqual(desk.say("text"), text_by_words(thing))

    def test_least(self):
        self.assertEqual(Desk("rail 0 0").say("least"), "0")
        self.assertEqual(Desk("rail 0 0 5>9 9>5").say("least"), "18")
        self.assertEqual(Desk("gate 0 1>5").say("least"), "10")
        self.assertEqual(Desk("gate 4 9>9").say("least"), "0")
        self.assertEqual(Desk("ring 24 0 6 3>9+ 9>3-").say("least"), "18")
        self.assertEqual(Desk("ring 24 0 0 3>2+").say("least"), "28")
        # A length may have more figures than a place.
        self.assertEqual(Desk(f"rail -{MOST} {MOST}").say("least"), str(2 * MOST))

    def test_tour(self):
        self.assertEqual(Desk("rail 2 -7").say("tour"), "2>-7")
        self.assertEqual(Desk("rail 0 0 5>9 9>5").say("tour"), "0>5 0:5>9 1:9>5 5>0")
        self.assertEqual(Desk("rail 4 4 4>4").say("tour"), "0:4>4")
        self.assertEqual(Desk("gate 0 0>5").say("tour"), "0:0>5 5>0")
        self.assertEqual(Desk("gate -3 3>3 -3>0").say("tour"), "1:-3>0 0>-3")
        self.assertEqual(Desk("ring 24 3 9 3>9+").say("tour"), "0:3>9+")
        self.assertEqual(Desk("ring 24 3 9 3>9-").say("tour"), "0:3>9-")
        self.assertEqual(Desk("ring 24 1 23").say("tour"), "1>23-")
        self.assertEqual(Desk("ring 24 23 1").say("tour"), "23>1+")
        self.assertEqual(Desk("ring 24 3 3 3>3-").say("tour"), "0:3>3-")

    def test_a_tour_of_nothing(self):
        for text in ("rail 0 0", "rail -5 -5", "gate 0", "gate -4 7>7", "ring 1 0 0", "ring 24 5 5"):
            self.assertEqual(Desk(text).say("tour"), "")

    def test_text(self):
        for text in DESKS + [f"rail {MOST} -{MOST} -{MOST}>{MOST}", f"ring {MOST} 0 {MOST - 1} 7>7-"]:
            desk = Desk(text)
            self.assertEqual(desk.say("text"), text)
            self.assertEqual(desk.say("text"), text)

    def test_add(self):
        desk = Desk("rail 3 -9")
        self.assertEqual(desk.say("add 1>5"), "ok")
        self.assertEqual(desk.say("add -7>2"), "ok")
        self.assertEqual(desk.say("add 4>4"), "ok")
        self.assertEqual(desk.say("add 4>4"), "ok")
        self.assertEqual(desk.say("text"), "rail 3 -9 1>5 -7>2 4>4 4>4")
        desk = Desk("gate 0 7>2")
        self.assertEqual(desk.say("add 0>5"), "ok")
        self.assertEqual(desk.say("text"), "gate 0 7>2 0>5")
        desk = Desk("ring 24 0 6 3>9+")
        self.assertEqual(desk.say("add 23>0-"), "ok")
        self.assertEqual(desk.say("add 0>23+"), "ok")
        self.assertEqual(desk.say("text"), "ring 24 0 6 3>9+ 23>0- 0>23+")
        desk = Desk("rail 0 0")
        self.assertEqual(desk.say(f"add -{MOST}>{MOST}"), "ok")
        self.assertEqual(desk.say("least"), str(4 * MOST))

    def test_drop(self):
        desk = Desk("rail 0 0 1>5 2>6 3>7 4>8")
        self.assertEqual(desk.say("drop 1"), "ok")
        self.assertEqual(desk.say("text"), "rail 0 0 1>5 3>7 4>8")
        self.assertEqual(desk.say("drop 2"), "ok")
        self.assertEqual(desk.say("text"), "rail 0 0 1>5 3>7")
        self.assertEqual(desk.say("drop 0"), "ok")
        self.assertEqual(desk.say("drop 0"), "ok")
        self.assertEqual(desk.say("text"), "rail 0 0")
        check_refused(self, errors.NoBox, desk.say, "drop 0")
        self.assertEqual(desk.say("add 2>3"), "ok")
        self.assertEqual(desk.say("text"), "rail 0 0 2>3")

    def test_numbers_of_boxes_behind_others(self):
        desk = Desk("ring 24 0 0 1>2+ 3>9+")
        desk.say("drop 0")
        desk.say("add 9>3-")
        self.assertEqual(desk.say("tour"), "0>3+ 0:3>9+ 1:9>3- 3>0-")
        self.assertEqual(desk.say("least"), "18")

    def test_each_row_behind_others(self):
        for text, box in [("rail 3 -9", "6>-6"), ("gate 2 5>9", "4>2"), ("ring 9 4 4", "7>1+")]:
            desk = Desk(text)
            wanted = thing_by_words(text)
            added = f"add {box}"
            for row in ["least", "tour", "text", added, "tour", "least", added, "drop 0", "text", "drop 0"]:
                told = desk.say(row)
                self.assertIsInstance(told, str)
                if row.startswith("add"):
                    wanted[-1].append(box_by_words(wanted[0], box))
                if row.startswith("drop"):
                    wanted[-1].pop(0)
                self.check_answers(desk, wanted)

    def test_all_samples(self):
        for thing in told_things():
            self.check_answers(Desk(text_by_words(thing)), thing)

    def test_many_rows_of_any_order(self):
        chance = random.Random(27)
        refused = {errors.NoBox: 0, None: 0}
        for text in DESKS * 10:
            desk = Desk(text)
            thing = thing_by_words(text)
            for _ in range(25):
                refusal, row = self.say_something(chance, thing)
                refused[refusal] += 1
                if refusal:
                    check_refused(self, refusal, desk.say, row)
                else:
                    self.assertEqual(desk.say(row), "ok")
                self.assertEqual(desk.say("text"), text_by_words(thing))
            self.check_answers(desk, thing)
        self.assertGreater(min(refused.values()), 200)

    def say_something(self, chance, thing):
        """A row that adds or drops a box, done on the thing where nothing refuses it; and what refuses it."""
        kind, boxes = thing[0], thing[-1]
        if chance.randrange(3) == 0:
            number = chance.randint(-2, len(boxes) + 1)
            if not 0 <= number < len(boxes):
                return errors.NoBox, f"drop {number}"
            boxes.pop(number)
            return None, f"drop {number}"
        word = f"{chance.randint(-2, 25)}>{chance.randint(0, 9)}" + (chance.choice("+-") if kind == "ring" else "")
        boxes.append(box_by_words(kind, word))
        if not has_its_places(thing):
            boxes.pop()
            return errors.NoBox, f"add {word}"
        return None, f"add {word}"

    def test_no_tour_is_shorter(self):
        # Promise 4, as the desk tells it.
        things = [("rail", *errand) for errand in mixed_errands(41, 40, 4, 9)]
        things += [("gate", *yard) for yard in mixed_yards(42, 60, 2, 7)]
        things += [("ring", *ring) for ring in mixed_rings(43, 40, 4, 11)]
        for thing in things:
            desk = Desk(text_by_words(thing))
            wanted = SEARCHES[thing[0]](*thing[1:])
            self.assertEqual(desk.say("least"), str(wanted), thing)
            self.assertEqual(length_by_kind(thing, moves_by_words(thing[0], desk.say("tour"))), wanted, thing)


class Refused(unittest.TestCase):
    """Promise 27."""

    def check(self, refusal, desk, row):
        before = desk.say("text")
        check_refused(self, refusal, desk.say, row)
        self.assertEqual(desk.say("text"), before)

    def test_what_is_none_of_these_rows(self):
        for text in DESKS:
            desk = Desk(text)
            for row in rows_that_are_none(text.split(" ")[0]):
                with self.subTest(text=text, row=row):
                    self.check(errors.NoWord, desk, row)
            self.assertEqual(desk.say("text"), text)

    def test_what_is_no_text(self):
        for text in DESKS:
            desk = Desk(text)
            for thing in NO_TEXTS:
                with self.subTest(text=text, thing=thing):
                    before = copy.deepcopy(thing)
                    self.check(errors.NoWord, desk, thing)
                    self.assertEqual(repr(thing), repr(before))

    def test_a_box_that_the_yard_cannot_have(self):
        for gate in (-4, 0, 7, MOST):
            for text in (f"gate {gate}", f"gate {gate} {gate}>{gate}"):
                desk = Desk(text)
                left = gate - 1
                for row in (f"add {left}>{gate}", f"add {gate}>{left}", f"add {left}>{left}", f"add -{MOST}>{gate}"):
                    self.check(errors.NoBox, desk, row)
                self.assertEqual(desk.say(f"add {gate}>{gate}"), "ok")

    def test_a_box_that_the_ring_cannot_have(self):
        for size in (1, 24, MOST):
            desk = Desk(f"ring {size} 0 0 0>0+")
            for place, sign in itertools.product((-MOST, -size, -1, size, MOST), "+-"):
                for row in (f"add {place}>0{sign}", f"add 0>{place}{sign}", f"add {place}>{place}{sign}"):
                    self.check(errors.NoBox, desk, row)
            self.assertEqual(desk.say(f"add {size - 1}>0-"), "ok")

    def test_the_rail_can_have_any_box(self):
        desk = Desk("rail 0 0")
        for start, goal in itertools.product((-MOST, -1, 0, 24, MOST), repeat=2):
            self.assertEqual(desk.say(f"add {start}>{goal}"), "ok")

    def test_a_number_of_no_box(self):
        for text in DESKS:
            desk = Desk(text)
            count = len(thing_by_words(text)[-1])
            for number in (-MOST, -count - 1, -count, -2, -1, count, count + 1, 70, MOST):
                if number not in range(count):
                    self.check(errors.NoBox, desk, f"drop {number}")

    def test_no_word_comes_ahead_of_no_box(self):
        # What the yard or ring can't have, or no box's number, in a row that is none besides.
        for row in ("add -5>2 ", "add -5>2+", " add -5>2", "add -5>02", "add -5", "drop 9 ", "drop -1 0", "drop 09"):
            self.check(errors.NoWord, Desk("gate 0 1>5"), row)
        for row in ("add 99>2", "add 99>2+ ", "add 99>02+", "add -5>2", f"add {FAR}>0+", "drop 99 ", "drop 099"):
            self.check(errors.NoWord, Desk("ring 24 0 0"), row)

    def test_behind_a_refusal_all_goes_on(self):
        desk = Desk("gate 0 1>5")
        for row in ("add -1>5", "drop 1", "drop -1", "least ", None, "add 5>1+"):
            with self.assertRaises(errors.RailError):
                desk.say(row)
        self.assertEqual(desk.say("text"), "gate 0 1>5")
        self.assertEqual(desk.say("least"), "10")
        self.assertEqual(desk.say("add 5>1"), "ok")
        self.assertEqual(desk.say("drop 0"), "ok")
        self.assertEqual(desk.say("text"), "gate 0 5>1")
        self.assertEqual(desk.say("drop 0"), "ok")
        self.assertEqual(desk.say("tour"), "")


class Desks(unittest.TestCase):
    """Promises 2 and 27."""

    def test_what_tells_nothing(self):
        for text in [
            "", " ", "rail", "rail 0", "rail 0 0 ", " rail 0 0", "rail 0  0", "gate 0 -1>5", "ring 0 0 0",
            "ring 24 24 0", "ring 24 0 0 1>2", "rail 0 0 1>2+", "rail 0 -0", "rail 00 0", f"gate {FAR}", "least",
        ]:
            check_refused(self, errors.NoText, Desk, text)
        for thing in NO_TEXTS:
            before = copy.deepcopy(thing)
            check_refused(self, errors.NoText, Desk, thing)
            self.assertEqual(repr(thing), repr(before))

    def test_two_desks_of_one_text_stay_apart(self):
        for text, box in [("rail 0 0 1>5", "7>2"), ("gate 0 1>5", "7>2"), ("ring 24 0 6 3>9+", "7>2-")]:
            one, other = Desk(text), Desk(text)
            one.say(f"add {box}")
            self.assertEqual(other.say("text"), text)
            self.assertEqual(one.say("text"), f"{text} {box}")
            other.say("drop 0")
            self.assertEqual(one.say("text"), f"{text} {box}")
            self.assertEqual(Desk(text).say("text"), text)

    def test_seventy_boxes(self):
        desk = Desk(f"ring {MOST} 0 5")
        for number in range(70):
            self.assertEqual(desk.say(f"add {number}>{MOST - 1 - number}{'+-'[number % 2]}"), "ok")
        thing = thing_by_words(desk.say("text"))
        self.assertEqual(len(thing[-1]), 70)
        moves = moves_by_words("ring", desk.say("tour"))
        self.assertIs(is_ring_tour(*thing[1:], moves), True)
        self.assertEqual(str(ring_length(MOST, moves)), desk.say("least"))
        for number in reversed(range(70)):
            self.assertEqual(desk.say(f"drop {number // 2}"), "ok")
        self.assertEqual(desk.say("text"), f"ring {MOST} 0 5")


if __name__ == "__main__":
    unittest.main()
