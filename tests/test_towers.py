import unittest
from itertools import permutations, product

from pegdiscs.errors import BadCount, BadDiscs, BadPegs, BadSetting
from pegdiscs.settings import is_setting
from pegdiscs.towers import number_of, setting_at

from samples import (
    model_moved, no_discs, no_pegs, no_settings, odd_things, scattered, small_settings, tower_moves,
)

TWO_PEGS = tuple(permutations((0, 1, 2), 2))
WRONG_PEGS = ((0, 0), (1, 1), (2, 2), (0, 3), (-1, 0), (True, 0), (0, False), (None, "0"), ([0], 1))
# Of sixty discs: both ends, and about each power of 2.
NUMBERS = sorted({
    number
    for power in range(61)
    for number in range(2 ** power - 2, 2 ** power + 3)
    if 0 <= number < 2 ** 60
})


def tower_settings(discs, begin, end):
    """The settings on the way of all discs, one move behind the other."""
    found = [(begin,) * discs]
    for move in tower_moves(discs, begin, end):
        found.append(model_moved(found[-1], move))
    return found


def cycled(discs, begin, end, number):
    """The setting of a number, by how often each disc has gone round the pegs, all in one sense."""
    aside = 3 - begin - end
    pegs = []
    for disc in range(discs):
        goes = (number + 2 ** disc) // 2 ** (disc + 1)
        # The greatest disc goes straight to the end, each other one the other way round than the next.
        round_of = (begin, end, aside) if (discs - disc) % 2 else (begin, aside, end)
        pegs.append(round_of[goes % 3])
    return tuple(pegs)


class SettingAt(unittest.TestCase):
    def test_of_no_disc_and_one(self):
        for begin, end in TWO_PEGS:
            self.assertEqual(setting_at(0, begin, end, 0), ())
            self.assertEqual(setting_at(1, begin, end, 0), (begin,))
            self.assertEqual(setting_at(1, begin, end, 1), (end,))

    def test_examples(self):
        told = [setting_at(2, 0, 2, number) for number in range(4)]
        self.assertEqual(told, [(0, 0), (1, 0), (1, 2), (2, 2)])
        told = [setting_at(3, 1, 0, number) for number in range(4)]
        self.assertEqual(told, [(1, 1, 1), (0, 1, 1), (0, 2, 1), (2, 2, 1)])

    def test_each_number_for_few_discs(self):
        for discs in range(9):
            for begin, end in TWO_PEGS:
                settings = tower_settings(discs, begin, end)
                self.assertEqual(len(settings), 2 ** discs)
                told = [setting_at(discs, begin, end, number) for number in range(2 ** discs)]
                self.assertEqual(told, settings)

    def test_sixty_discs(self):
        for begin, end in TWO_PEGS:
            aside = 3 - begin - end
            self.assertEqual(setting_at(60, begin, end, 0), (begin,) * 60)
            self.assertEqual(setting_at(60, begin, end, 1), (aside,) + (begin,) * 59)
            self.assertEqual(setting_at(60, begin, end, 2 ** 59 - 1), (aside,) * 59 + (begin,))
            self.assertEqual(setting_at(60, begin, end, 2 ** 59), (aside,) * 59 + (end,))
            self.assertEqual(setting_at(60, begin, end, 2 ** 60 - 2), (aside,) + (end,) * 59)
            self.assertEqual(setting_at(60, begin, end, 2 ** 60 - 1), (end,) * 60)
            for number in NUMBERS:
                self.assertEqual(setting_at(60, begin, end, number), cycled(60, begin, end, number))

    def test_many_discs(self):
        for discs in range(61):
            for number in (0, 2 ** discs // 3, 2 ** discs // 2, 2 ** discs - 1):
                self.assertEqual(setting_at(discs, 2, 1, number), cycled(discs, 2, 1, number))

    def test_from_end_to_begin_the_numbers_go_the_other_way(self):
        for begin, end in TWO_PEGS:
            for number in NUMBERS:
                there = setting_at(60, begin, end, number)
                self.assertEqual(setting_at(60, end, begin, 2 ** 60 - 1 - number), there)

    def test_its_kinds(self):
        told = setting_at(60, 0, 1, 2 ** 59 + 12345)
        self.assertIs(type(told), tuple)
        self.assertIs(is_setting(told), True)

    def test_what_is_no_number_of_discs_is_refused(self):
        for discs in no_discs():
            with self.assertRaises(BadDiscs):
                setting_at(discs, 0, 1, 0)

    def test_what_is_no_peg_is_refused(self):
        for peg in no_pegs():
            for discs in (0, 1, 60):
                for begin, end in ((peg, 0), (0, peg), (peg, 2), (peg, peg)):
                    with self.assertRaises(BadPegs):
                        setting_at(discs, begin, end, 0)

    def test_one_peg_twice_is_refused(self):
        for discs, peg in product((0, 1, 3, 60), (0, 1, 2)):
            with self.assertRaises(BadPegs):
                setting_at(discs, peg, peg, 0)

    def test_what_is_no_number_there_is_refused(self):
        for discs in (0, 1, 2, 5, 59, 60):
            wrong = [-1, -2, 2 ** discs, 2 ** discs + 1, 2 ** 61, 10 ** 40, -10 ** 40, (), (0,), [], [0]]
            for number in odd_things() + wrong:
                with self.assertRaises(BadCount):
                    setting_at(discs, 0, 1, number)

    def test_bad_discs_then_bad_pegs_then_bad_count(self):
        for begin, end in WRONG_PEGS:
            for number in (0, -1, None, True, 2 ** 60):
                for discs in (-1, 61, None, True, "3", [3]):
                    with self.assertRaises(BadDiscs):
                        setting_at(discs, begin, end, number)
                for discs in (0, 3, 60):
                    with self.assertRaises(BadPegs):
                        setting_at(discs, begin, end, number)
        for discs in (-1, 61, None, True):
            with self.assertRaises(BadDiscs):
                setting_at(discs, 0, 1, -1)


class NumberOf(unittest.TestCase):
    def test_of_no_disc_and_one(self):
        for begin, end in TWO_PEGS:
            self.assertEqual(number_of((), begin, end), 0)
            self.assertEqual(number_of((begin,), begin, end), 0)
            self.assertEqual(number_of((end,), begin, end), 1)
            self.assertIsNone(number_of((3 - begin - end,), begin, end))

    def test_each_small_setting(self):
        for begin, end in TWO_PEGS:
            ways = [tower_settings(discs, begin, end) for discs in range(7)]
            for setting in small_settings(6):
                settings = ways[len(setting)]
                number = settings.index(setting) if setting in settings else None
                self.assertEqual(number_of(setting, begin, end), number)

    def test_sixty_discs(self):
        for begin, end in TWO_PEGS:
            for number in NUMBERS:
                self.assertEqual(number_of(cycled(60, begin, end, number), begin, end), number)

    def test_the_number_of_what_setting_at_told(self):
        for discs in range(61):
            for number in range(0, 2 ** discs, 2 ** discs // 5 + 1):
                self.assertEqual(number_of(setting_at(discs, 1, 2, number), 1, 2), number)

    def test_from_end_to_begin_the_numbers_go_the_other_way(self):
        for begin, end in TWO_PEGS:
            for number in NUMBERS:
                there = setting_at(60, begin, end, number)
                self.assertEqual(number_of(there, end, begin), 2 ** 60 - 1 - number)

    def test_none_beside_the_way(self):
        for begin, end in TWO_PEGS:
            aside = 3 - begin - end
            self.assertIsNone(number_of((aside,) * 60, begin, end))
            self.assertIsNone(number_of((begin,) * 59 + (end,), begin, end))
            self.assertIsNone(number_of((aside,) * 58 + (begin, end), begin, end))
            for number in NUMBERS:
                there = setting_at(60, begin, end, number)
                # Each of the three places of the least disc, of which two stand on the way.
                told = [number_of((peg,) + there[1:], begin, end) for peg in (0, 1, 2)]
                self.assertEqual(told.count(None), 1)

    def test_what_was_scattered(self):
        for start in range(50):
            self.assertIsNone(number_of(scattered(60, start), 0, 1))

    def test_its_kind(self):
        for setting in ((), (0,), (1,), (0,) * 60, (1,) * 60):
            self.assertIs(type(number_of(setting, 0, 1)), int)

    def test_what_is_no_setting_is_refused(self):
        for thing in no_settings():
            with self.assertRaises(BadSetting):
                number_of(thing, 0, 1)

    def test_what_is_no_peg_is_refused(self):
        for peg in no_pegs():
            for setting in ((), (0,), (2,), scattered(60, 1)):
                for begin, end in ((peg, 0), (0, peg), (peg, 2), (peg, peg)):
                    with self.assertRaises(BadPegs):
                        number_of(setting, begin, end)

    def test_one_peg_twice_is_refused(self):
        for peg in (0, 1, 2):
            for setting in ((), (peg,), (0, 1, 2), (peg,) * 60):
                with self.assertRaises(BadPegs):
                    number_of(setting, peg, peg)

    def test_bad_setting_is_told_first(self):
        for thing in no_settings():
            for begin, end in WRONG_PEGS:
                with self.assertRaises(BadSetting):
                    number_of(thing, begin, end)


class AskedAgain(unittest.TestCase):
    def test_the_same_is_told(self):
        wrong = [0, 1, 1]
        for _ in range(2):
            self.assertEqual(setting_at(3, 0, 1, 4), (2, 2, 1))
            self.assertEqual(number_of((1, 1, 1), 0, 1), 7)
            self.assertIsNone(number_of((1, 1, 2), 0, 1))
            with self.assertRaises(BadSetting):
                number_of(wrong, 0, 1)
            with self.assertRaises(BadPegs):
                setting_at(3, 1, 1, 0)
        self.assertEqual(wrong, [0, 1, 1])


if __name__ == "__main__":
    unittest.main()
