"""The error classes: [1] of errors.py's line in the interface."""

from tests.things import Case
from towerwise import errors
from towerwise.errors import BadPaper, BadProgram, BadText, BadTower, TowerError, TwoKinds

OF_A_TEXT = ("BadKind", "BadWorth", "BadWay", "BadNumber", "BadName", "BadTerm", "BadLine", "NoDeed", "NoKind",
             "NoOrder", "ByNought", "Lacking", "TooGreat")
WITH_FIELDS = ("BadTower", "BadProgram", "BadPaper", "BadText", "TwoKinds")


class Errors(Case):
    def test_any_refusal_is_a_value_error(self):
        self.assertEqual(TowerError.__bases__, (ValueError,))

    def test_each_stands_straight_under_tower_error(self):
        for name in OF_A_TEXT + WITH_FIELDS:
            with self.subTest(name):
                self.assertEqual(getattr(errors, name).__bases__, (TowerError,))

    def test_none_stands_under_another(self):
        classes = [getattr(errors, name) for name in OF_A_TEXT + WITH_FIELDS]
        for one in classes:
            for other in classes:
                self.assertEqual(issubclass(one, other), one is other)

    def test_each_is_a_class_of_its_own(self):
        for name in ("TowerError",) + OF_A_TEXT + WITH_FIELDS:
            self.assertEqual(getattr(errors, name).__name__, name)

    def test_those_without_fields_are_made_of_a_text(self):
        for name in OF_A_TEXT + ("TowerError",):
            made = getattr(errors, name)("why")
            self.assertIsInstance(made, TowerError)
            self.assertEqual(str(made), "why")

    def test_fields_of_bad_tower(self):
        for place in ((), (0, 3), (1, 0), (2,)):
            self.told(place, lambda at: BadTower(at).place, place)

    def test_fields_of_bad_program(self):
        for row in (-1, 0, 29):
            self.told(row, lambda at: BadProgram(at).row, row)

    def test_fields_of_bad_paper(self):
        for place in ((), (0,), (7,)):
            self.told(place, lambda at: BadPaper(at).place, place)

    def test_fields_of_bad_text(self):
        made = BadText(3, 5)
        self.assertEqual((made.line, made.word), (3, 5))

    def test_fields_of_two_kinds(self):
        made = TwoKinds(2, 4)
        self.assertEqual((made.one, made.other), (2, 4))

    def test_raised_ones_are_caught_as_tower_error(self):
        for made in (BadTower(()), BadProgram(-1), BadPaper(()), BadText(0, 0), TwoKinds(1, 2)):
            with self.assertRaises(TowerError) as caught:
                raise made
            self.assertIs(caught.exception, made)

    def test_objects_keep_fields_of_their_own(self):
        one, other = BadText(1, 2), BadText(3, 4)
        self.assertEqual((one.line, one.word, other.line, other.word), (1, 2, 3, 4))
