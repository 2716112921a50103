import copy
import unittest

from hookrail import errors
from hookrail.texts import read, show
from oracles import text_by_words, thing_by_words
from samples import FAR, NO_TEXTS, check_own_lists, check_refused, is_whole, told_things

MOST = FAR - 1

TOLD = [
    ("rail 0 0", ("rail", 0, 0, [])),
    ("rail 3 -9", ("rail", 3, -9, [])),
    ("rail 3 -9 1>5 -7>2", ("rail", 3, -9, [(1, 5), (-7, 2)])),
    ("rail -1 10 -5>-6 0>0 0>0", ("rail", -1, 10, [(-5, -6), (0, 0), (0, 0)])),
    (f"rail {MOST} -{MOST} -{MOST}>{MOST}", ("rail", MOST, -MOST, [(-MOST, MOST)])),
    ("gate 0", ("gate", 0, [])),
    ("gate -8", ("gate", -8, [])),
    ("gate 0 1>5", ("gate", 0, [(1, 5)])),
    ("gate -8 -8>5 0>-8 3>3", ("gate", -8, [(-8, 5), (0, -8), (3, 3)])),
    (f"gate -{MOST} {MOST}>-{MOST}", ("gate", -MOST, [(MOST, -MOST)])),
    ("ring 1 0 0", ("ring", 1, 0, 0, [])),
    ("ring 1 0 0 0>0+ 0>0-", ("ring", 1, 0, 0, [(0, 0, 1), (0, 0, -1)])),
    ("ring 24 0 6 3>9+ 9>3-", ("ring", 24, 0, 6, [(3, 9, 1), (9, 3, -1)])),
    (f"ring {MOST} {MOST - 1} 0 0>{MOST - 1}-", ("ring", MOST, MOST - 1, 0, [(0, MOST - 1, -1)])),
]

# Words that stand for no number, wherever a number is to stand.
NO_NUMBERS = [
    "", "-", "--1", "-0", "00", "01", "-01", "000", "+1", "+0", "1-", "1+", "- 1", "1.0", "1e3", "1_0", "0x1", "a",
    "1a", "a1", "one", "(1)", "1,", "\t1", "1\t", "1\n", "\n1", "1\n\n", "\r1", "~", ">", "True", "None", "[]", "'1'",
    "1" + 40 * "0", "-1" + 40 * "0", 41 * "9", "-" + 41 * "9", 40 * "0" + "1", "1" + 5000 * "0",
    # Figures of other scripts, which Python's int would take for 5.
    "\u0665", "\uff15", "1\u0665", "\u00b2",
]


class Read(unittest.TestCase):
    """Promise 26."""

    def check_refused(self, text):
        check_refused(self, errors.NoText, read, text)

    def test_each_kind(self):
        for text, thing in TOLD:
            with self.subTest(text=text):
                self.assertEqual(read(text), thing)

    def test_numbers_of_one_and_of_forty_figures(self):
        for number in list(range(-11, 12)) + [10 ** 39, -10 ** 39, MOST, -MOST]:
            self.assertEqual(read(f"rail {number} 0"), ("rail", number, 0, []))
            self.assertEqual(read(f"rail 0 {number}"), ("rail", 0, number, []))
            self.assertEqual(read(f"rail 0 0 {number}>0"), ("rail", 0, 0, [(number, 0)]))
            self.assertEqual(read(f"rail 0 0 0>{number}"), ("rail", 0, 0, [(0, number)]))
            self.assertEqual(read(f"gate {number}"), ("gate", number, []))

    def test_what_is_no_number(self):
        for word in NO_NUMBERS:
            with self.subTest(word=word):
                for text in [
                    "rail # 0", "rail 0 #", "rail 0 0 #>1", "rail 0 0 1>#", "rail 0 0 1>2 #>1", "gate #", "gate 0 #>1",
                    "gate 0 1>#", "ring # 0 0", "ring 9 # 0", "ring 9 0 #", "ring 9 0 0 #>1+", "ring 9 0 0 1>#-",
                    "rail # 0 1>2", "gate # 5>6", "ring 9 0 # 1>2+",
                ]:
                    self.check_refused(text.replace("#", word))

    def test_forty_one_figures(self):
        for number in (FAR, -FAR, 10 * FAR):
            for text in (f"rail {number} 0", f"rail 0 0 0>{number}", f"gate {-MOST} 0>{number}", f"ring {number} 0 0"):
                self.check_refused(text)

    def test_blanks(self):
        for text, thing in TOLD:
            self.check_refused(" " + text)
            self.check_refused(text + " ")
            self.check_refused("  " + text)
            self.check_refused(text + "  ")
            for place, sign in enumerate(text):
                if sign == " ":
                    for other in ("  ", "", "\t", "\n", " \t", "\n ", ",", "   "):
                        self.check_refused(text[:place] + other + text[place + 1:])
        for text in ("", " ", "  ", "\t", "\n", "\t\n ~"):
            self.check_refused(text)

    def test_tabs_and_line_ends(self):
        for text, thing in TOLD:
            for place in range(len(text) + 1):
                for sign in ("\t", "\n", "\r", "\r\n"):
                    self.check_refused(text[:place] + sign + text[place:])

    def test_a_word_more_or_fewer(self):
        for text in [
            "rail", "gate", "ring", "rail 0", "ring 9", "ring 9 0", "rail 1>2", "gate 1>2", "ring 1>2+", "rail 0 1>2",
            "ring 9 0 1>2+", "ring 9 1>2+", "rail 0 0 0", "gate 0 0", "ring 9 0 0 0", "rail 0 0 1>2 3", "gate 0 1>2 3",
            "ring 9 0 0 1>2+ 3", "rail 0 0 rail", "rail 0 0 1>2 gate 0", "0 0", "3 -9 1>5", "1>5", "rail rail 0 0",
        ]:
            self.check_refused(text)

    def test_another_first_word(self):
        for word in ["Rail", "RAIL", "rails", "rai", "ra il", "yard", "errand", "-", "0", "box", "rail,", "gate0", ""]:
            for behind in ("", " 0", " 0 0", " 9 0 0", " 0 0 1>2", " 9 0 0 1>2+"):
                self.check_refused(word + behind)

    def test_a_sign_that_a_box_must_have_or_must_not(self):
        for word in ("1>2+", "1>2-", "2>2+"):
            self.check_refused("rail 0 0 " + word)
            self.check_refused("gate 0 " + word)
            self.check_refused("rail 0 0 1>2 " + word)
            self.check_refused("gate 0 " + word + " 1>2")
            self.assertEqual(len(read("ring 9 0 0 " + word)[4]), 1)
        for word in ("1>2", "2>2", "1>2++", "1>2+-", "1>2--", "1>2*", "1>2 +", "1>+2", "1+>2", "+1>2", "1>2=", "1>2+1"):
            self.check_refused("ring 9 0 0 " + word)
            self.check_refused("ring 9 0 0 1>2+ " + word)
            self.check_refused("ring 9 0 0 " + word + " 1>2-")

    def test_a_box_of_another_form(self):
        for word in [">", "1>", ">2", "1", "1>2>3", "1>>2", "1<2", "1-2", "0:1>2", "1>2,", "(1,2)", "1>2>", ">1>2"]:
            for before, behind in (("rail 0 0 ", ""), ("gate 0 ", ""), ("ring 9 0 0 ", "+"), ("ring 9 0 0 ", "-")):
                self.check_refused(before + word + behind)
                self.check_refused(before + word)

    def test_a_place_left_of_the_gate(self):
        for text in [
            "gate 0 -1>5", "gate 0 5>-1", "gate 0 -1>-1", "gate 4 3>4", "gate 4 5>6 4>3", "gate -5 -6>0",
            f"gate {MOST} {MOST - 1}>{MOST}", f"gate 0 0>-{MOST}",
        ]:
            self.check_refused(text)

    def test_a_place_that_the_ring_has_not(self):
        for text in [
            "ring 24 24 0", "ring 24 0 24", "ring 24 -1 0", "ring 24 0 -1", "ring 24 0 0 24>0+", "ring 24 0 0 0>24-",
            "ring 24 0 0 -1>0+", "ring 24 0 0 0>-1-", "ring 24 0 0 0>1+ 25>25-", "ring 1 0 1", "ring 1 0 0 1>0+",
        ]:
            self.check_refused(text)

    def test_a_size_that_is_none(self):
        for text in ["ring 0 0 0", "ring -1 0 0", "ring -1 -1 -1", "ring -5 -6 -6", "ring 0 0 0 0>0+", "ring 0 -1 -1"]:
            self.check_refused(text)

    def test_what_is_no_text(self):
        for thing in NO_TEXTS:
            with self.subTest(thing=thing):
                before = copy.deepcopy(thing)
                self.check_refused(thing)
                self.assertEqual(repr(thing), repr(before))

    def test_each_text_with_one_sign_changed(self):
        found = {True: 0, False: 0}
        for text, thing in TOLD[:4] + TOLD[5:9] + TOLD[10:13] + [("ring 20 12 7 11>13+", None)]:
            changed = set()
            for place in range(len(text) + 1):
                changed.add(text[:place] + text[place + 1:])
                for sign in " 0129-+>:railgten\t\n~":
                    changed.add(text[:place] + sign + text[place:])
                    changed.add(text[:place] + sign + text[place + 1:])
            for other in sorted(changed):
                wanted = thing_by_words(other)
                found[wanted is None] += 1
                if wanted is None:
                    self.check_refused(other)
                else:
                    self.assertEqual(read(other), wanted, other)
        self.assertGreater(min(found.values()), 300)

    def test_all_samples(self):
        for thing in told_things():
            self.assertEqual(read(text_by_words(thing)), thing)

    def test_kinds(self):
        for text, wanted in TOLD:
            thing = read(text)
            self.assertIsInstance(thing, tuple)
            self.assertIsInstance(thing[0], str)
            self.assertIsInstance(thing[-1], list)
            self.assertTrue(all(is_whole(number) for number in thing[1:-1]))
            for box in thing[-1]:
                self.assertIsInstance(box, tuple)
                self.assertTrue(all(is_whole(part) for part in box))

    def test_two_readings_share_no_list(self):
        for text, wanted in TOLD:
            one, other = read(text), read(text)
            check_own_lists(self, [one, other])
            one[-1].append((7, 7))
            self.assertEqual(other, wanted)
            self.assertEqual(read(text), wanted)


class Show(unittest.TestCase):
    """Promise 26."""

    def test_each_kind(self):
        for text, thing in TOLD:
            with self.subTest(text=text):
                self.assertEqual(show(thing), text)

    def test_what_is_shown_is_read_as_it_again(self):
        for thing in told_things():
            before = copy.deepcopy(thing)
            text = show(thing)
            self.assertIsInstance(text, str)
            self.assertEqual(text, text_by_words(thing))
            self.assertEqual(read(text), thing)
            self.assertEqual(thing, before)

    def test_either_way_and_a_box_that_stays(self):
        self.assertEqual(show(("ring", 5, 0, 0, [(2, 2, 1), (2, 2, -1), (4, 0, 1)])), "ring 5 0 0 2>2+ 2>2- 4>0+")

    def test_numbers_below_nought(self):
        self.assertEqual(show(("rail", -1, -2, [(-3, -4), (0, -10)])), "rail -1 -2 -3>-4 0>-10")
        self.assertEqual(show(("gate", -FAR + 1, [(-1, 0)])), f"gate {-FAR + 1} -1>0")


if __name__ == "__main__":
    unittest.main()
