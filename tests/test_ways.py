import unittest
from itertools import product

from pegdiscs.errors import BadPegs, BadSetting, TooMany
from pegdiscs.settings import moved, walked
from pegdiscs.towers import setting_at
from pegdiscs.ways import choices, far, many_ways, next_move, toward, way, ways

from refusals import check_bad_settings, check_moves, check_unlike
from samples import (
    model_moved, model_moves, no_pegs, no_settings, of_digits, scattered, small_settings, tower_moves,
)
from search import distances, least_by_goes, model_walked, shortest_ways

OF_TWO = (choices, far, many_ways, next_move, ways, way)
# Twelve discs of which the greatest stands on unlike pegs, by how far they are.
ONCE_3000 = (of_digits("020002200000"), of_digits("100110000011"))
ONCE_3001 = (of_digits("020002200000"), of_digits("021010000011"))
TWICE_3000 = (of_digits("000000001010"), of_digits("000100120001"))
TWICE_3001 = (of_digits("000000001010"), of_digits("000100210001"))


def pairs(most):
    """All pairs of settings of as many discs, with how far each setting is from the second one."""
    for other in small_settings(most):
        found = distances(other)
        for one in found:
            yield one, other, found


def equal_choices(discs):
    """Two settings whose greatest disc may as well go once as twice; an even number of discs."""
    return (1,) * (discs - 1) + (0,), (0,) + (1,) * (discs - 1)


def tops_of_sixty(one, other, start):
    """The pair with greater discs, alike in both, up to sixty."""
    top = scattered(60 - len(one), start)
    return one + top, other + top


def goes_of(disc, steps):
    return [move for move in steps if move[0] == disc]


class Toward(unittest.TestCase):
    def test_of_no_disc_and_one(self):
        for peg in (0, 1, 2):
            self.assertEqual(toward((), peg), 0)
            for own in (0, 1, 2):
                self.assertEqual(toward((own,), peg), int(own != peg))

    def test_examples(self):
        self.assertEqual(toward((0, 0), 2), 3)
        self.assertEqual(toward((1, 0), 2), 2)
        self.assertEqual(toward((2, 0), 2), 3)
        self.assertEqual(toward((2, 2, 0), 1), 4)

    def test_small_settings_against_the_search(self):
        for discs in range(7):
            for peg in (0, 1, 2):
                found = distances((peg,) * discs)
                self.assertEqual(len(found), 3 ** discs)
                for setting, distance in found.items():
                    self.assertEqual(toward(setting, peg), distance)

    def test_from_one_peg_to_another_one(self):
        for discs in (0, 1, 2, 3, 30, 59, 60):
            for begin, end in product((0, 1, 2), repeat=2):
                moves = 0 if begin == end else 2 ** discs - 1
                self.assertEqual(toward((begin,) * discs, end), moves)

    def test_to_all_three_pegs_together(self):
        for discs in (0, 1, 7, 31, 60):
            for start in range(50):
                setting = scattered(discs, start)
                told = [toward(setting, peg) for peg in (0, 1, 2)]
                self.assertEqual(sum(told), 2 * (2 ** discs - 1))

    def test_sixty_discs(self):
        self.assertEqual(toward((0,) * 59 + (1,), 1), 2 ** 59 - 1)
        self.assertEqual(toward((0,) * 59 + (1,), 2), 2 ** 59)
        self.assertEqual(toward((0,) * 59 + (1,), 0), 2 ** 60 - 1)
        self.assertEqual(toward((1,) + (0,) * 59, 0), 1)
        for number in (0, 1, 2, 3000, 2 ** 58 + 7, 2 ** 60 - 2, 2 ** 60 - 1):
            setting = setting_at(60, 2, 0, number)
            self.assertEqual(toward(setting, 2), number)
            self.assertEqual(toward(setting, 0), 2 ** 60 - 1 - number)

    def test_it_is_a_whole_number(self):
        for setting in ((), (0,), (0, 1), scattered(60, 1)):
            self.assertIs(type(toward(setting, 1)), int)

    def test_what_is_no_setting_is_refused(self):
        for thing in no_settings():
            for peg in (0, 1, 2):
                with self.assertRaises(BadSetting):
                    toward(thing, peg)

    def test_what_is_no_peg_is_refused(self):
        for peg in no_pegs():
            for setting in ((), (0,), (0, 1, 2), (2,) * 60):
                with self.assertRaises(BadPegs):
                    toward(setting, peg)

    def test_bad_setting_is_told_first(self):
        for thing in no_settings():
            for peg in (None, True, -1, 3, "0", [0]):
                with self.assertRaises(BadSetting):
                    toward(thing, peg)


class Choices(unittest.TestCase):
    def test_none_of_alike_settings(self):
        for setting in small_settings(4) + [scattered(60, 1), (0,) * 60]:
            self.assertIsNone(choices(setting, tuple(list(setting))))

    def test_examples(self):
        self.assertEqual(choices((0,), (2,)), (0, 1, 2))
        self.assertEqual(choices((1, 0), (0, 1)), (1, 3, 3))
        self.assertEqual(choices((1, 1, 0), (0, 0, 1)), (2, 7, 5))
        self.assertEqual(choices((2, 2, 0), (2, 2, 1)), (2, 1, 11))
        self.assertEqual(choices((0, 1, 2, 1), (1, 1, 2, 1)), (0, 1, 2))

    def test_small_settings_against_the_search(self):
        for one in small_settings(4):
            found = [least_by_goes(one, disc) for disc in range(len(one))]
            for other in product((0, 1, 2), repeat=len(one)):
                unlike = [disc for disc in range(len(one)) if one[disc] != other[disc]]
                if unlike:
                    disc = unlike[-1]
                    told = (disc, found[disc][(other, 1)], found[disc][(other, 2)])
                    self.assertEqual(choices(one, other), told)

    def test_sixty_discs(self):
        alike = (2,) * 59
        self.assertEqual(choices(alike + (0,), alike + (1,)), (59, 1, 3 * 2 ** 59 - 1))
        self.assertEqual(choices((0,) * 60, (1,) * 60), (59, 2 ** 60 - 1, 3 * 2 ** 59 - 1))
        one, other = (1,) * 59 + (0,), (0,) * 59 + (1,)
        self.assertEqual(choices(one, other), (59, 2 ** 60 - 1, 2 ** 59 + 1))
        one, other = equal_choices(60)
        self.assertEqual(choices(one, other), (59, 2 ** 60 - 1, 2 ** 60 - 1))

    def test_greater_discs_that_are_alike_change_nothing(self):
        for start in range(30):
            one, other = scattered(7, start), scattered(7, start + 1000)
            self.assertEqual(choices(*tops_of_sixty(one, other, start)), choices(one, other))

    def test_the_other_way_round_the_same_is_told(self):
        for start in range(30):
            one, other = scattered(60, start), scattered(60, start + 1000)
            self.assertEqual(choices(one, other), choices(other, one))

    def test_its_kinds(self):
        for one, other in (((0,), (1,)), ((0,) * 60, (1,) * 60)):
            told = choices(one, other)
            self.assertIs(type(told), tuple)
            self.assertEqual([type(part) for part in told], [int] * 3)


class HowFarAndHowMany(unittest.TestCase):
    def test_of_alike_settings(self):
        for setting in small_settings(3) + [scattered(60, 3), (1,) * 60]:
            self.assertEqual(far(setting, setting), 0)
            self.assertEqual(many_ways(setting, setting), 1)

    def test_each_pair_against_the_search(self):
        for one, other, found in pairs(4):
            self.assertEqual(far(one, other), found[one])
            self.assertEqual(many_ways(one, other), len(shortest_ways(one, found)))

    def test_five_discs_against_the_search(self):
        for start in range(12):
            other = scattered(5, start)
            for one, distance in distances(other).items():
                self.assertEqual(far(one, other), distance)

    def test_two_ways_just_where_both_counts_are_alike(self):
        self.assertEqual(many_ways((1, 0), (0, 1)), 2)
        self.assertEqual(many_ways((0, 0), (1, 1)), 1)
        for discs in range(2, 61, 2):
            one, other = equal_choices(discs)
            self.assertEqual((far(one, other), many_ways(one, other)), (2 ** discs - 1, 2))
            self.assertEqual(many_ways((0,) + one[1:], other), 1)

    def test_sixty_discs(self):
        self.assertEqual(far((0,) * 60, (2,) * 60), 2 ** 60 - 1)
        self.assertEqual(many_ways((0,) * 60, (2,) * 60), 1)
        one, other = (1,) * 59 + (0,), (0,) * 59 + (1,)
        self.assertEqual((far(one, other), many_ways(one, other)), (2 ** 59 + 1, 1))
        one, other = (2,) * 59 + (0,), (2,) * 59 + (1,)
        self.assertEqual((far(one, other), many_ways(one, other)), (1, 1))

    def test_they_are_as_far_the_other_way_round(self):
        for start in range(50):
            one, other = scattered(60, start), scattered(60, start + 500)
            self.assertEqual(far(one, other), far(other, one))
            self.assertEqual(many_ways(one, other), many_ways(other, one))

    def test_to_all_on_one_peg_as_toward_tells(self):
        for start in range(50):
            for peg in (0, 1, 2):
                setting = scattered(60, start)
                self.assertEqual(far(setting, (peg,) * 60), toward(setting, peg))
                self.assertEqual(far((peg,) * 60, setting), toward(setting, peg))
                self.assertEqual(many_ways(setting, (peg,) * 60), 1)
                self.assertEqual(many_ways((peg,) * 60, setting), 1)

    def test_they_are_whole_numbers(self):
        for one, other in (((), ()), ((0,), (1,)), equal_choices(60)):
            self.assertIs(type(far(one, other)), int)
            self.assertIs(type(many_ways(one, other)), int)


class NextMove(unittest.TestCase):
    def test_none_of_alike_settings(self):
        for setting in small_settings(3) + [scattered(60, 3), (1,) * 60]:
            self.assertIsNone(next_move(setting, setting))

    def test_the_first_move_of_the_told_way(self):
        for one, other, _ in pairs(4):
            if one != other:
                self.assertEqual(next_move(one, other), way(one, other)[0])

    def test_of_two_ways_that_by_which_the_disc_goes_once(self):
        self.assertEqual(next_move((1, 0), (0, 1)), (0, 2))
        self.assertEqual(next_move((0, 1), (1, 0)), (0, 2))
        # All lesser discs stand on the greatest one's new peg: going twice it would go at once.
        for discs in range(2, 61, 2):
            one, other = equal_choices(discs)
            self.assertEqual(next_move(one, other), (0, 2))
            self.assertIn((discs - 1, 2), model_moves(one))

    def test_the_greatest_disc_goes_at_once(self):
        self.assertEqual(next_move((2,) * 59 + (0,), (2,) * 59 + (1,)), (59, 1))
        self.assertEqual(next_move((1,) * 59 + (0,), (0,) * 59 + (1,)), (59, 2))

    def test_along_a_tower_of_sixty_discs(self):
        end = (1,) * 60
        for first in (0, 1, 2 ** 30 - 3, 2 ** 59 - 3, 2 ** 60 - 6):
            for number in range(first, first + 5):
                now = setting_at(60, 0, 1, number)
                behind = setting_at(60, 0, 1, number + 1)
                self.assertEqual(model_moved(now, next_move(now, end)), behind)
                self.assertEqual(model_moved(behind, next_move(behind, (0,) * 60)), now)

    def test_far_apart_each_move_leads_nearer(self):
        for start in range(20):
            now, other = scattered(60, start), scattered(60, start + 70)
            for _ in range(10):
                distance = far(now, other)
                self.assertGreater(distance, 3000)
                move = next_move(now, other)
                self.assertIn(move, model_moves(now))
                now = moved(now, move)
                self.assertEqual(far(now, other), distance - 1)

    def test_move_by_move_it_is_the_told_way(self):
        for start in range(20):
            one, other = scattered(9, start), scattered(9, start + 70)
            told, now = [], one
            while now != other:
                told.append(next_move(now, other))
                now = moved(now, told[-1])
            self.assertEqual(told, way(one, other))

    def test_its_kinds(self):
        check_moves(self, [next_move((0,), (1,)), next_move((0,) * 60, (1,) * 60)])


class Ways(unittest.TestCase):
    def check_a_way(self, one, other, told):
        check_moves(self, told)
        self.assertEqual(model_walked(one, told), other)
        self.assertEqual(len(told), far(one, other))

    def test_of_alike_settings(self):
        for setting in small_settings(3) + [scattered(60, 3), (1,) * 60]:
            self.assertEqual(ways(setting, setting), [[]])
            self.assertEqual(way(setting, setting), [])

    def test_examples(self):
        self.assertEqual(ways((0,), (2,)), [[(0, 2)]])
        self.assertEqual(ways((0, 0), (2, 2)), [[(0, 1), (1, 2), (0, 2)]])
        self.assertEqual(ways((1, 0), (0, 1)), [[(0, 2), (1, 1), (0, 0)], [(1, 2), (0, 0), (1, 1)]])
        self.assertEqual(ways((1, 1, 0), (0, 0, 1)), [[(2, 2), (0, 2), (1, 0), (0, 0), (2, 1)]])

    def test_each_pair_against_the_search(self):
        for one, other, found in pairs(4):
            told = ways(one, other)
            self.assertEqual(sorted(told), sorted(shortest_ways(one, found)))
            if len(told) == 2:
                disc = choices(one, other)[0]
                self.assertEqual([len(goes_of(disc, steps)) for steps in told], [1, 2])

    def test_five_discs_against_the_search(self):
        for start in range(12):
            other = scattered(5, start)
            found = distances(other)
            for one in found:
                self.assertEqual(sorted(ways(one, other)), sorted(shortest_ways(one, found)))

    def test_way_is_the_first_of_them(self):
        for one, other, _ in pairs(3):
            self.assertEqual(way(one, other), ways(one, other)[0])
        for one, other in (equal_choices(10), ONCE_3000, TWICE_3000):
            self.assertEqual(way(one, other), ways(one, other)[0])

    def test_of_two_long_ways_once_is_first(self):
        one, other = equal_choices(10)
        first, second = ways(one, other)
        self.check_a_way(one, other, first)
        self.check_a_way(one, other, second)
        self.assertEqual(goes_of(9, first), [(9, 1)])
        self.assertEqual(goes_of(9, second), [(9, 2), (9, 1)])

    def test_a_whole_tower(self):
        self.assertEqual(ways((0,) * 11, (2,) * 11), [tower_moves(11, 0, 2)])

    def test_between_two_places_of_a_tower(self):
        end = (2,) * 11
        one = walked((0,) * 11, tower_moves(11, 0, 2)[:100])[-1]
        self.assertEqual(ways(one, end), [tower_moves(11, 0, 2)[100:]])

    def test_sixty_discs(self):
        self.assertEqual(ways((2,) * 59 + (0,), (2,) * 59 + (1,)), [[(59, 1)]])
        for start in range(10):
            one, other = scattered(8, start), scattered(8, start + 30)
            self.assertEqual(ways(*tops_of_sixty(one, other, start)), ways(one, other))

    def test_sixty_discs_of_which_the_greatest_goes_once(self):
        one, other = (1,) + (2,) * 58 + (0,), (2,) * 59 + (1,)
        self.assertEqual(ways(one, other), [[(0, 2), (59, 1)]])
        self.assertEqual(ways(other, one), [[(59, 0), (0, 1)]])
        one, other = (0, 1) + (2,) * 57 + (0,), (1, 0) + (2,) * 57 + (1,)
        self.assertEqual(ways(one, other), [[(1, 2), (0, 2), (59, 1), (0, 1), (1, 0)]])


class TooFar(unittest.TestCase):
    def check_told(self, one, other, goes):
        self.assertEqual((far(one, other), many_ways(one, other)), (3000, 1))
        told = way(one, other)
        self.assertEqual(ways(one, other), [told])
        self.assertEqual(len(told), 3000)
        self.assertEqual(model_walked(one, told), other)
        self.assertEqual(len(goes_of(choices(one, other)[0], told)), goes)

    def check_refused(self, one, other):
        for function in (ways, way, ways):
            with self.assertRaises(TooMany):
                function(one, other)

    def check_told_at_any_distance(self, one, other):
        disc, once, twice = choices(one, other)
        self.assertEqual(far(one, other), min(once, twice))
        self.assertEqual(many_ways(one, other), 1 + (once == twice))
        self.assertIn(next_move(one, other), model_moves(one))
        self.assertNotEqual(one[disc], other[disc])

    def test_three_thousand_moves_are_told(self):
        self.check_told((0,) * 12, setting_at(12, 0, 1, 3000), 1)
        self.check_told(setting_at(12, 2, 1, 1000), setting_at(12, 2, 1, 4000), 1)
        self.check_told(*ONCE_3000, 1)
        self.check_told(*TWICE_3000, 2)

    def test_one_more_is_refused(self):
        for one, other in (
            ((0,) * 12, setting_at(12, 0, 1, 3001)),
            (setting_at(12, 2, 1, 1000), setting_at(12, 2, 1, 4001)),
            ONCE_3001, TWICE_3001,
        ):
            self.assertEqual(far(one, other), 3001)
            self.check_refused(one, other)
            self.check_told_at_any_distance(one, other)

    def test_sixty_discs(self):
        for start, pair in enumerate((ONCE_3000, TWICE_3000)):
            told = ways(*pair)
            self.assertEqual(ways(*tops_of_sixty(*pair, start)), told)
        for start, pair in enumerate((ONCE_3001, TWICE_3001)):
            self.check_refused(*tops_of_sixty(*pair, start))
        one = setting_at(60, 0, 1, 2 ** 59 - 1500)
        self.check_told(one, setting_at(60, 0, 1, 2 ** 59 + 1500), 1)
        self.check_told(setting_at(60, 0, 1, 2 ** 59 + 1500), one, 1)
        self.check_refused(one, setting_at(60, 0, 1, 2 ** 59 + 1501))
        self.check_refused(setting_at(60, 0, 1, 2 ** 59 + 1501), one)

    def test_the_lesser_count_decides(self):
        disc, once, twice = choices(*ONCE_3000)
        self.assertEqual((disc, once), (11, 3000))
        self.assertGreater(twice, 3000)
        disc, once, twice = choices(*TWICE_3000)
        self.assertEqual((disc, twice), (11, 3000))
        self.assertGreater(once, 3000)

    def test_far_away(self):
        far_pairs = [((0,) * 60, (1,) * 60), equal_choices(60), equal_choices(12), ((0,) * 12, (2,) * 12)]
        far_pairs += [(scattered(60, start), scattered(60, start + 5)) for start in range(20)]
        for one, other in far_pairs:
            self.check_refused(one, other)
            self.check_told_at_any_distance(one, other)


class Refusals(unittest.TestCase):
    def test_what_is_no_setting(self):
        for function in OF_TWO:
            check_bad_settings(self, function)

    def test_unlike_many_discs(self):
        for function in OF_TWO:
            check_unlike(self, function)


class TheAskersOwn(unittest.TestCase):
    def test_a_changed_list_changes_nothing_told_later(self):
        for one, other in (((1, 0), (0, 1)), ((0, 0), (2, 2)), ((0, 1), (0, 1)), equal_choices(6)):
            kept = [list(steps) for steps in ways(one, other)]
            told = ways(one, other)
            for steps in told:
                steps.append("x")
                steps[0] = None
            told.append([(0, 0)])
            self.assertEqual(ways(one, other), kept)
            told = way(one, other)
            told.insert(0, "x")
            self.assertEqual(way(one, other), kept[0])
            self.assertEqual(ways(one, other), kept)

    def test_lists_within_a_list_are_two(self):
        first, second = ways((1, 0), (0, 1))
        first.clear()
        self.assertEqual(second, [(1, 2), (0, 0), (1, 1)])

    def test_what_was_told_stays(self):
        told = ways((1, 0), (0, 1))
        kept = [list(steps) for steps in told]
        ways((1, 0), (0, 1))[0].clear()
        way((0, 0), (2, 2)).clear()
        self.assertEqual(told, kept)

    def test_what_is_handed_in_stays(self):
        one, other, wrong = (1, 0), (0, 1), [0, 1]
        for function in OF_TWO:
            function(one, other)
            for first, second in ((one, wrong), (wrong, other)):
                with self.assertRaises(BadSetting):
                    function(first, second)
        toward(one, 2)
        self.assertEqual((one, other, wrong), ((1, 0), (0, 1), [0, 1]))

    def test_an_iterator_that_is_refused_is_not_used_up(self):
        pegs = iter([0, 1])
        for function in OF_TWO:
            with self.assertRaises(BadSetting):
                function(pegs, (0, 1))
        self.assertEqual(list(pegs), [0, 1])

    def test_asked_again_the_same_is_told(self):
        for one, other in (((1, 0), (0, 1)), ONCE_3000, TWICE_3000):
            for function in OF_TWO:
                self.assertEqual(function(one, other), function(one, other))


if __name__ == "__main__":
    unittest.main()
