import unittest
from itertools import product

from pegdiscs.errors import BadDiscs, BadMove, BadPegs, BadSetting
from pegdiscs.settings import is_setting, moved, moves, perfect, walked

from samples import (
    heaps, model_moved, model_moves, no_discs, no_moves, no_pegs, no_settings, odd_things, small_settings,
    tower_moves,
)

SPREAD = (0, 1, 2) * 20


class IsSetting(unittest.TestCase):
    def test_of_no_disc_one_and_sixty(self):
        for setting in ((), (0,), (1,), (2,), SPREAD, (0,) * 60, (1,) * 60, (2,) * 60):
            self.assertIs(is_setting(setting), True)

    def test_every_small_tuple_of_pegs_is_one(self):
        for setting in small_settings(4):
            self.assertIs(is_setting(setting), True)

    def test_of_more_than_sixty_discs_is_none(self):
        for setting in ((0,) * 61, SPREAD + (0,), (2,) * 62, (1,) * 100000):
            self.assertIs(is_setting(setting), False)

    def test_of_another_kind_is_none(self):
        for thing in odd_things() + [[], [0], [0, 1, 2], 0, 1, 2, -1]:
            self.assertIs(is_setting(thing), False)

    def test_with_what_is_no_peg_is_none(self):
        for peg in no_pegs():
            for setting in ((peg,), (peg, 0), (0, 1, peg), (0, peg, 2), SPREAD[:59] + (peg,)):
                self.assertIs(is_setting(setting), False)

    def test_true_and_false_are_no_pegs(self):
        for setting in ((True,), (False,), (0, True), (False, 2)):
            self.assertIs(is_setting(setting), False)

    def test_asked_again_the_same_is_told(self):
        thing = [0, 1]
        self.assertEqual([is_setting(thing), is_setting(thing), is_setting((0, 1))], [False, False, True])
        self.assertEqual(thing, [0, 1])


class Perfect(unittest.TestCase):
    def test_none_one_and_sixty_discs_on_each_peg(self):
        for peg in (0, 1, 2):
            self.assertEqual(perfect(0, peg), ())
            self.assertEqual(perfect(1, peg), (peg,))
            self.assertEqual(perfect(60, peg), (peg,) * 60)

    def test_every_number_of_discs_is_a_setting(self):
        for discs, peg in product(range(61), (0, 1, 2)):
            told = perfect(discs, peg)
            self.assertIs(type(told), tuple)
            self.assertEqual(told, tuple(peg for _ in range(discs)))
            self.assertIs(is_setting(told), True)

    def test_what_is_no_number_of_discs_is_refused(self):
        for discs in no_discs():
            for peg in (0, 1, 2):
                with self.assertRaises(BadDiscs):
                    perfect(discs, peg)

    def test_what_is_no_peg_is_refused(self):
        for peg in no_pegs():
            for discs in (0, 1, 60):
                with self.assertRaises(BadPegs):
                    perfect(discs, peg)

    def test_bad_discs_is_told_first(self):
        for discs in (-1, 61, True, None, "3", [3]):
            for peg in (-1, 3, True, None, "0", [0]):
                with self.assertRaises(BadDiscs):
                    perfect(discs, peg)


class Moves(unittest.TestCase):
    def test_of_no_disc(self):
        self.assertEqual(moves(()), [])

    def test_of_one_disc(self):
        self.assertEqual(moves((0,)), [(0, 1), (0, 2)])
        self.assertEqual(moves((1,)), [(0, 0), (0, 2)])
        self.assertEqual(moves((2,)), [(0, 0), (0, 1)])

    def test_all_on_one_peg_lets_the_least_go(self):
        for discs in (2, 3, 60):
            self.assertEqual(moves((0,) * discs), [(0, 1), (0, 2)])
            self.assertEqual(moves((1,) * discs), [(0, 0), (0, 2)])
            self.assertEqual(moves((2,) * discs), [(0, 0), (0, 1)])

    def test_spread_ones_by_discs_then_by_pegs(self):
        self.assertEqual(moves((0, 1, 2)), [(0, 1), (0, 2), (1, 2)])
        self.assertEqual(moves((2, 1, 0)), [(0, 0), (0, 1), (1, 0)])
        self.assertEqual(moves((1, 0)), [(0, 0), (0, 2), (1, 2)])
        self.assertEqual(moves((0, 0, 1)), [(0, 1), (0, 2), (2, 2)])
        self.assertEqual(moves(SPREAD), [(0, 1), (0, 2), (1, 2)])
        self.assertEqual(moves((0,) * 59 + (1,)), [(0, 1), (0, 2), (59, 2)])

    def test_every_small_setting_against_the_heaps(self):
        for setting in small_settings():
            self.assertEqual(moves(setting), model_moves(setting))

    def test_its_kinds(self):
        told = moves((0, 1, 2))
        self.assertIs(type(told), list)
        for move in told:
            self.assertIs(type(move), tuple)
            self.assertEqual([type(part) for part in move], [int, int])

    def test_a_told_list_that_was_changed_changes_nothing_told_later(self):
        setting = (0, 1, 2)
        told = moves(setting)
        kept = list(told)
        told.append("x")
        told[0] = None
        self.assertEqual(moves(setting), kept)
        self.assertEqual(setting, (0, 1, 2))
        self.assertEqual(moves((0, 1, 2)), kept)

    def test_what_is_no_setting_is_refused(self):
        for thing in no_settings():
            with self.assertRaises(BadSetting):
                moves(thing)


class Moved(unittest.TestCase):
    def assert_refused(self, setting, move):
        with self.assertRaises(BadMove) as told:
            moved(setting, move)
        self.assertEqual(told.exception.at, 0)
        self.assertIs(type(told.exception.at), int)

    def test_examples(self):
        self.assertEqual(moved((0,), (0, 2)), (2,))
        self.assertEqual(moved((0, 0, 1), (0, 2)), (2, 0, 1))
        self.assertEqual(moved((0, 0, 1), (2, 2)), (0, 0, 2))
        self.assertEqual(moved((0,) * 59 + (1,), (59, 2)), (0,) * 59 + (2,))
        self.assertEqual(moved((1,) * 60, (0, 0)), (0,) + (1,) * 59)

    def test_every_move_that_may_be_and_no_other(self):
        for setting in small_settings(4):
            may_be = model_moves(setting)
            for move in product(range(-2, len(setting) + 2), range(-2, 5)):
                if move in may_be:
                    told = moved(setting, move)
                    self.assertEqual(told, model_moved(setting, move))
                    self.assertIs(type(told), tuple)
                else:
                    self.assert_refused(setting, move)

    def test_no_move_leaves_a_greater_disc_upon_a_lesser_one(self):
        for setting in small_settings(4):
            for move in moves(setting):
                pegs = heaps(setting)
                self.assertEqual(pegs[setting[move[0]]].pop(), move[0])
                pegs[move[1]].append(move[0])
                self.assertEqual(heaps(moved(setting, move)), pegs)

    def test_a_disc_beneath_another_one(self):
        self.assert_refused((0, 0), (1, 1))
        self.assert_refused((1, 0, 0), (2, 2))
        self.assert_refused((2,) * 60, (59, 0))

    def test_its_own_peg(self):
        self.assert_refused((0,), (0, 0))
        self.assert_refused((1, 2), (0, 1))
        self.assert_refused((1, 2), (1, 2))

    def test_a_peg_with_a_lesser_disc(self):
        self.assert_refused((0, 1), (1, 0))
        self.assert_refused((2, 0, 1), (2, 0))
        self.assert_refused((0,) * 59 + (1,), (59, 0))

    def test_a_disc_or_peg_that_is_not_there(self):
        for move in ((0, 0), (0, 1), (-1, 1)):
            self.assert_refused((), move)
        for move in ((1, 1), (2, 1), (-1, 1), (60, 1), (0, 3), (0, -1), (0, 4)):
            self.assert_refused((0,), move)
        self.assert_refused(SPREAD, (60, 0))

    def test_what_is_no_move_at_all(self):
        for setting in ((), (0,), (1,), (2,), (0, 1, 2), SPREAD):
            for thing in no_moves():
                self.assert_refused(setting, thing)

    def test_bad_setting_is_told_first(self):
        for setting in no_settings():
            for move in ((0, 1), None, [0, 1], (9, 9)):
                with self.assertRaises(BadSetting):
                    moved(setting, move)

    def test_what_is_handed_in_stays(self):
        setting = (0, 1, 2)
        move = (0, 2)
        wrong = [0, 2]
        self.assertEqual(moved(setting, move), (2, 1, 2))
        self.assert_refused(setting, wrong)
        self.assertEqual(moved(setting, move), (2, 1, 2))
        self.assertEqual((setting, move, wrong), ((0, 1, 2), (0, 2), [0, 2]))


class Walked(unittest.TestCase):
    def assert_refused(self, setting, steps, at):
        with self.assertRaises(BadMove) as told:
            walked(setting, steps)
        self.assertEqual(told.exception.at, at)
        self.assertIs(type(told.exception.at), type(at))

    def test_of_no_moves(self):
        for setting in ((), (0,), (2, 1), SPREAD):
            self.assertEqual(walked(setting, []), [setting])

    def test_the_first_setting_and_that_behind_each_move(self):
        self.assertEqual(walked((0,), [(0, 1), (0, 0)]), [(0,), (1,), (0,)])
        self.assertEqual(
            walked((0, 0), [(0, 1), (1, 2), (0, 2)]),
            [(0, 0), (1, 0), (1, 2), (2, 2)],
        )

    def test_its_kinds(self):
        told = walked((0, 0), [(0, 1), (1, 2)])
        self.assertIs(type(told), list)
        self.assertEqual([type(setting) for setting in told], [tuple] * 3)

    def test_a_whole_tower(self):
        told = walked((0,) * 9, tower_moves(9, 0, 2))
        self.assertEqual(len(told), 512)
        self.assertEqual(len(set(told)), 512)
        self.assertEqual(told[-1], (2,) * 9)
        for one, other in zip(told, told[1:]):
            self.assertEqual(sum(a != b for a, b in zip(one, other)), 1)

    def test_a_long_walk_of_sixty_discs(self):
        steps = [(0, 1), (0, 2), (0, 0)] * 2000
        told = walked((0,) * 60, steps)
        self.assertEqual(len(told), 6001)
        self.assertEqual(told[-1], (0,) * 60)

    def test_all_walks_of_two_moves(self):
        for setting in small_settings(3):
            for first in model_moves(setting):
                middle = model_moved(setting, first)
                for second in model_moves(middle):
                    told = walked(setting, [first, second])
                    self.assertEqual(told, [setting, middle, model_moved(middle, second)])

    def test_what_is_no_list_is_refused_with_none(self):
        for steps in odd_things() + [0, 1, (), (0, 1), ((0, 1),), ((0, 1), (0, 2))]:
            for setting in ((), (0,), (0, 1, 2)):
                self.assert_refused(setting, steps, None)

    def test_the_place_of_the_first_wrong_move(self):
        self.assert_refused((0, 0), [(1, 1)], 0)
        self.assert_refused((0, 0), [(0, 1), (1, 1)], 1)
        self.assert_refused((0, 0), [(0, 1), (1, 2), (1, 2), (0, 2)], 2)
        self.assert_refused((0, 0), [(0, 1), (0, 1), None, (1, 1)], 1)
        self.assert_refused((), [(0, 1)], 0)
        self.assert_refused((0,), [(0, 1), (0, 2)] * 1000 + [(0, 2)], 2000)

    def test_a_move_that_may_be_at_the_first_setting_alone(self):
        self.assertEqual(moved((0, 1), (1, 2)), (0, 2))
        self.assert_refused((0, 1), [(0, 2), (1, 2)], 1)

    def test_what_is_no_move_at_all(self):
        for thing in no_moves():
            self.assert_refused((0,), [thing], 0)
            self.assert_refused((0,), [(0, 1), (0, 0), thing, None], 2)
            self.assert_refused(SPREAD, [(0, 1), thing], 1)

    def test_bad_setting_is_told_first(self):
        for setting in no_settings():
            for steps in ([], [(0, 1)], [None], None, ((0, 1),)):
                with self.assertRaises(BadSetting):
                    walked(setting, steps)

    def test_what_is_handed_in_stays(self):
        setting = (0, 0)
        steps = [(0, 1), (1, 2)]
        wrong = [(0, 1), [1, 2], (5, 5)]
        walked(setting, steps)
        self.assert_refused(setting, wrong, 1)
        self.assertEqual(setting, (0, 0))
        self.assertEqual(steps, [(0, 1), (1, 2)])
        self.assertEqual(wrong, [(0, 1), [1, 2], (5, 5)])

    def test_what_is_told_is_the_askers_own(self):
        steps = [(0, 1), (1, 2)]
        told = walked((0, 0), steps)
        kept = list(told)
        steps.append((0, 2))
        self.assertEqual(told, kept)
        told.clear()
        steps.pop()
        self.assertEqual(walked((0, 0), steps), kept)

    def test_asked_again_the_same_is_refused(self):
        for _ in range(2):
            self.assert_refused((0, 0), [(0, 1), (1, 1)], 1)
            self.assert_refused((0, 0), (), None)


if __name__ == "__main__":
    unittest.main()
