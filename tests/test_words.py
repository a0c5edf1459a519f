"""[1] Whole numbers, names, numbers in texts, words: towerwise.words."""

from tests.things import Case, THINGS, whole
from towerwise.words import is_among, is_name, is_whole, number_in, words_of

LETTERS = "abcdefghijklmnopqrstuvwxyz"
# All signs that a text may have: those from the blank to ~ but the percent sign.
SIGNS = [chr(at) for at in range(32, 127) if at != 37]


class IsWhole(Case):
    def test_whole_numbers(self):
        for number in (0, 1, -1, 2, 9, -10, 10 ** 60, -10 ** 60, 10 ** 300 + 1, 10 ** 3999, -10 ** 3999):
            self.told(True, is_whole, number)

    def test_true_and_false_are_none(self):
        self.told(False, is_whole, True)
        self.told(False, is_whole, False)

    def test_all_other_things(self):
        for thing in THINGS:
            self.told(whole(thing), is_whole, thing)


class IsAmong(Case):
    def test_ends_and_beyond(self):
        for least, most in ((0, 5), (2, 60), (-3, 3), (-7, -2), (4, 4), (-10 ** 60, 10 ** 60)):
            for number, wanted in ((least - 1, False), (least, True), (most, True), (most + 1, False)):
                self.told(wanted, is_among, number, least, most)

    def test_within(self):
        for number in range(-10, 11):
            self.told(-3 <= number <= 4, is_among, number, -3, 4)

    def test_far_beyond(self):
        self.told(False, is_among, 10 ** 3999, 0, 5)
        self.told(False, is_among, -10 ** 3999, 0, 5)

    def test_true_and_false_are_none(self):
        for thing in (True, False):
            self.told(False, is_among, thing, 0, 1)
            self.told(False, is_among, thing, -5, 5)

    def test_all_other_things(self):
        for thing in THINGS:
            self.told(whole(thing) and -1 <= thing <= 2, is_among, thing, -1, 2)


class IsName(Case):
    def test_one_to_six_letters(self):
        for many in range(0, 9):
            for letter in "amz":
                self.told(1 <= many <= 6, is_name, letter * many)
        self.told(True, is_name, "abcdef")
        self.told(False, is_name, "abcdefg")

    def test_every_sign_alone_and_at_each_place(self):
        for sign in SIGNS:
            self.told(sign in LETTERS, is_name, sign)
            for place in range(6):
                self.told(sign in LETTERS, is_name, "abcdef"[:place] + sign + "abcdef"[place + 1:])

    def test_line_ends(self):
        for text in ("\n", "a\n", "\na", "a\nb"):
            self.told(False, is_name, text)

    def test_all_other_things(self):
        for thing in THINGS:
            self.told(thing in ("a", "b", "whole", "share", "plus", "over") if type(thing) is str else False,
                      is_name, thing)


class NumberIn(Case):
    def test_plain_numbers(self):
        for number in list(range(-120, 121)) + [10 ** 9, -10 ** 9, 987654321012345678909, -1000]:
            self.told(number, number_in, str(number))

    def test_nought(self):
        self.told(0, number_in, "0")
        for text in ("-0", "00", "-00", "000"):
            self.told(None, number_in, text)

    def test_nought_ahead(self):
        for text in ("01", "-01", "007", "0001", "-0123"):
            self.told(None, number_in, text)

    def test_signs_and_blanks(self):
        for text in ("", "-", "--", "--1", "+1", "+", "- 1", " 1", "1 ", " ", "1 2", "1-", "1-2", "-1-", "1.0", "1.",
                     "1,000", "1_000", "-1_0", "_1", "1e3", "0x1", "0b1", "1/2", "a", "1a", "a1", "\n", "1\n", "\n1"):
            self.told(None, number_in, text)

    def test_every_sign(self):
        for sign in SIGNS:
            figure = sign in "0123456789"
            self.told(int(sign) if figure else None, number_in, sign)
            self.told(int("1" + sign) if figure else None, number_in, "1" + sign)
            self.told(int("-1" + sign + "2") if figure else None, number_in, "-1" + sign + "2")

    def test_sixty_one_figures_and_one_more(self):
        for figures in ("1" * 61, "9" * 61, "1" + "0" * 60, "1" * 60):
            self.told(int(figures), number_in, figures)
            self.told(-int(figures), number_in, "-" + figures)
        for figures in ("1" * 62, "9" * 62, "1" + "0" * 61, "1" * 63, "1" * 400, "1" * 5000, "0" * 62):
            self.told(None, number_in, figures)
            self.told(None, number_in, "-" + figures)

    def test_no_texts(self):
        for thing in THINGS:
            if type(thing) is not str:
                self.told(None, number_in, thing)


class WordsOf(Case):
    def test_words(self):
        self.told([], words_of, "")
        self.told(["a"], words_of, "a")
        self.told(["a", "b"], words_of, "a b")
        self.told(["kind", "root", "5"], words_of, "kind root 5")
        self.told(["->", "1/2", "-0", "~"], words_of, "-> 1/2 -0 ~")

    def test_blanks_too_many(self):
        for text in (" ", "  ", " a", "a ", "a  b", " a b", "a b ", "a   b", "a b  c"):
            self.told(None, words_of, text)

    def test_line_ends(self):
        for text in ("\n", "a\n", "\na", "a\nb", "a b\n", "a \nb", "a\n b"):
            self.told(None, words_of, text)

    def test_every_sign(self):
        for sign in SIGNS[1:]:
            self.told([sign], words_of, sign)
            self.told(["x" + sign, sign + "y"], words_of, "x" + sign + " " + sign + "y")

    def test_many_words(self):
        self.told(["ab"] * 500, words_of, " ".join(["ab"] * 500))

    def test_no_texts(self):
        for thing in THINGS:
            if type(thing) is not str:
                self.told(None, words_of, thing)

    def test_told_lists_are_the_askers_own(self):
        for text in ("", "a", "a b"):
            first = words_of(text)
            kept = list(first)
            first.append("more")
            first[0] = "other"
            self.told(kept, words_of, text)
