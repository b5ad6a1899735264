"""Names, values, alike, marks and digits: points [2] and [4]."""

import copy
import string
import unittest

from roadsettings.marks import alike, digit, is_name, is_value, mark

DEEPEST = 16


def nested(make, depth, inmost):
    """That many lists or tuples within one another, round the inmost thing."""
    thing = inmost
    for _ in range(depth):
        thing = make([thing])
    return thing


def boxes():
    """Tuples and lists, none of which is a name or a value."""
    told = [(), [], ("a",), ["a"], ("a", "b"), [1, 2], (1,), [None], ("leaf", 1, (("a", 1),)), [["a"], ("b", [True])]]
    for make in (tuple, list):
        for inmost in ("a", 1, None, True, ()):
            told.append(nested(make, DEEPEST - 1, inmost))
            told.append(nested(make, DEEPEST, inmost))
    return told


NEITHER = [True, False, None]
NUMBERS = [0, 1, -1, 7, 255, 256, -400, 10**29, 10**30 - 1, -(10**30 - 1), 10**30, 10**60, -(10**5000)]


class Told(unittest.TestCase):
    def check(self, ask, things, due):
        for thing in things:
            with self.subTest(thing=repr(thing)[:80] if not isinstance(thing, int) else thing.bit_length()):
                self.assertIs(ask(thing), due)


class IsName(Told):
    def test_each_letter_by_itself(self):
        self.check(is_name, string.ascii_lowercase, True)

    def test_one_to_eight_letters(self):
        self.check(is_name, ["a" * many for many in range(1, 9)], True)
        self.check(is_name, ["z" * many for many in range(1, 9)], True)
        self.check(is_name, ["cab", "abcdefgh", "stuvwxyz", "none", "true", "set"], True)

    def test_too_short_or_too_long(self):
        self.check(is_name, ["", "a" * 9, "abcdefghi", "a" * 40, "a" * 400], False)

    def test_each_other_sign_anywhere(self):
        letters = string.ascii_lowercase
        others = [chr(code) for code in range(0, 400) if chr(code) not in letters + "%"]
        others += ["\u2028", "\u0430", "\uff41", "\U0001d41a"]
        for sign in others:
            self.check(is_name, [sign, sign + "ab", "a" + sign + "b", "ab" + sign], False)

    def test_signs_that_the_document_names(self):
        self.check(is_name, ["A", "Cab", "caB", "a1", "1", "0", "a b", " a", "a ", "a\t", "\ta", "a\n", "\na"], False)
        self.check(is_name, ["`", "{", "a`", "a{", "_", "a_b", "a-b", "'a'", "\xdf", "\xe4", "\xaa"], False)

    def test_what_is_no_text(self):
        self.check(is_name, NUMBERS + NEITHER + boxes(), False)


class IsValue(Told):
    def test_numbers(self):
        self.check(is_value, NUMBERS, True)

    def test_each_sign_from_the_blank_to_the_wave(self):
        signs = [chr(code) for code in range(ord(" "), ord("~") + 1) if chr(code) != "%"]
        self.check(is_value, signs, True)
        self.check(is_value, ["".join(signs)], True)

    def test_texts_of_any_length(self):
        self.check(is_value, ["", " ", "a", "cab", "x" * 40, "~" * 41, " " * 4000, "it's", "\\", "0", "-1"], True)

    def test_each_other_sign_anywhere(self):
        codes = list(range(0, 32)) + list(range(127, 400))
        others = [chr(code) for code in codes] + ["\u2028", "\u0430", "\uff41", "\U0001d41a"]
        for sign in others:
            self.check(is_value, [sign, sign + "ab", "a" + sign + "b", "ab" + sign], False)

    def test_tabs_and_line_feeds(self):
        self.check(is_value, ["\t", "\n", "a\t", "a\n", "\na", "a\nb", "a\tb", "\r", "\x7f", "\x80", "\x1f"], False)

    def test_true_false_none(self):
        self.check(is_value, NEITHER, False)

    def test_tuples_and_lists(self):
        self.check(is_value, boxes(), False)


class Alike(unittest.TestCase):
    UNLIKE = [0, 1, -1, 2, 10, 10**29, 10**29 + 1, -(10**29), "", " ", "0", "1", "-1", "a", "A", "aa", "a ", "None", None]

    def test_each_is_alike_to_itself_alone(self):
        for at, one in enumerate(self.UNLIKE):
            for also, other in enumerate(self.UNLIKE):
                with self.subTest(one=one, other=other):
                    self.assertIs(alike(one, other), at == also)

    def test_equal_ones_that_are_no_single_object(self):
        for figures in ("5", "300", "1" + "0" * 29, "-" + "9" * 30):
            self.assertIs(alike(int(figures), int(figures)), True)
        for text in ("", "a", "a longer text, with blanks", "x" * 40):
            self.assertIs(alike("".join(list(text)), "".join(list(text))), True)

    def test_kinds_that_the_document_parts(self):
        for one, other in ((1, "1"), ("", None), (0, None), (0, "0"), ("None", None), (-1, "-1")):
            self.assertIs(alike(one, other), False)
            self.assertIs(alike(other, one), False)
        self.assertIs(alike(None, None), True)


class Mark(unittest.TestCase):
    def test_the_document_s_own(self):
        self.assertEqual(mark("cab"), 11)

    def test_one_letter(self):
        self.assertEqual([mark(letter) for letter in string.ascii_lowercase], list(range(1, 27)))

    def test_some_reckoned_by_hand(self):
        told = {"aa": 3, "c": 3, "ba": 4, "d": 4, "ab": 5, "abc": 14, "wzzz": 257, "aaaaaaaa": 36}
        self.assertEqual({name: mark(name) for name in told}, told)

    def test_eight_z(self):
        self.assertEqual(mark("zzzzzzzz"), 936)

    def test_two_letters_exchanged(self):
        self.assertEqual((mark("ab"), mark("ba")), (5, 4))
        self.assertEqual((mark("roads"), mark("raods")), (18 + 30 + 3 + 16 + 95, 18 + 2 + 45 + 16 + 95))
        self.assertEqual((mark("azaaaaaa"), mark("aaaaaaza")), (36 + 25 * 2, 36 + 25 * 7))

    def test_a_letter_more_at_the_end(self):
        for name in ("a", "z", "cab", "roads", "abcdefg", "zzzzzzz"):
            for number, letter in enumerate(string.ascii_lowercase, start=1):
                self.assertEqual(mark(name + letter) - mark(name), number * (len(name) + 1))


class Digit(unittest.TestCase):
    def figures(self, number):
        return [digit(number, level) for level in range(5)]

    def test_small_numbers(self):
        self.assertEqual(self.figures(0), [0, 0, 0, 0, 0])
        self.assertEqual(self.figures(1), [1, 0, 0, 0, 0])
        self.assertEqual(self.figures(3), [3, 0, 0, 0, 0])
        self.assertEqual(self.figures(4), [0, 1, 0, 0, 0])
        self.assertEqual(self.figures(5), [1, 1, 0, 0, 0])

    def test_powers_of_four_and_the_numbers_beside(self):
        self.assertEqual(self.figures(15), [3, 3, 0, 0, 0])
        self.assertEqual(self.figures(16), [0, 0, 1, 0, 0])
        self.assertEqual(self.figures(17), [1, 0, 1, 0, 0])
        self.assertEqual(self.figures(63), [3, 3, 3, 0, 0])
        self.assertEqual(self.figures(64), [0, 0, 0, 1, 0])
        self.assertEqual(self.figures(65), [1, 0, 0, 1, 0])
        self.assertEqual(self.figures(255), [3, 3, 3, 3, 0])
        self.assertEqual(self.figures(256), [0, 0, 0, 0, 1])
        self.assertEqual(self.figures(257), [1, 0, 0, 0, 1])
        self.assertEqual(self.figures(1023), [3, 3, 3, 3, 3])
        self.assertEqual(self.figures(1024), [0, 0, 0, 0, 0])
        self.assertEqual(self.figures(1025), [1, 0, 0, 0, 0])

    def test_marks(self):
        self.assertEqual(self.figures(mark("cab")), [3, 2, 0, 0, 0])
        self.assertEqual(self.figures(mark("zzzzzzzz")), [0, 2, 2, 2, 3])

    def test_all_below_some_thousand_put_together_again(self):
        for number in range(1024 * 3):
            figures = self.figures(number)
            self.assertTrue(all(figure in (0, 1, 2, 3) for figure in figures))
            together = sum(figure * 4**level for level, figure in enumerate(figures))
            self.assertEqual(together, number % 1024)

    def test_numbers_of_thirty_figures(self):
        for number in (10**29, 10**29 + 1, 123456789012345678901234567890, 10**30 - 1, 4**49 + 27, 4**49 - 1):
            expected = [number // 4**level % 4 for level in range(5)]
            self.assertEqual(self.figures(number), expected)
        self.assertEqual(self.figures(4**49 + 27), [3, 2, 1, 0, 0])
        self.assertEqual(self.figures(4**49 - 1), [3, 3, 3, 3, 3])


class HandedIn(unittest.TestCase):
    def test_what_is_handed_in_stays_as_it_was(self):
        for ask in (is_name, is_value):
            things = boxes()
            before = copy.deepcopy(things)
            first = [ask(thing) for thing in things]
            second = [ask(thing) for thing in things]
            self.assertEqual(things, before)
            self.assertEqual(first, second)


if __name__ == "__main__":
    unittest.main()
