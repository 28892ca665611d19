import unittest

from pegdiscs.beside import near_far, near_moves, near_way, row_number, row_setting
from pegdiscs.errors import BadCount, BadDiscs, BadSetting, TooMany
from pegdiscs.settings import is_setting, moves
from pegdiscs.ways import far, ways

from refusals import check_bad_settings, check_moves, check_unlike
from samples import model_moved, no_discs, no_settings, odd_things, scattered, small_settings
from search import distances, model_near_moves, model_walked, near_row, shortest_ways

LAST = 3 ** 60 - 1
# Of sixty discs: both ends, the middle, and about each power of 3.
NUMBERS = sorted({
    number
    for middle in [3 ** power for power in range(61)] + [2 * 3 ** power for power in range(60)] + [LAST // 2]
    for number in range(middle - 3, middle + 4)
    if 0 <= number <= LAST
})


def tops_of_sixty(setting):
    """The setting with greater discs up to sixty, all on peg 0: they change no number."""
    return setting + (0,) * (60 - len(setting))


class NearMoves(unittest.TestCase):
    def test_of_no_disc_and_one(self):
        self.assertEqual(near_moves(()), [])
        self.assertEqual(near_moves((0,)), [(0, 1)])
        self.assertEqual(near_moves((1,)), [(0, 0), (0, 2)])
        self.assertEqual(near_moves((2,)), [(0, 1)])

    def test_examples(self):
        self.assertEqual(near_moves((0, 1)), [(0, 1), (1, 2)])
        self.assertEqual(near_moves((1, 0)), [(0, 0), (0, 2)])
        self.assertEqual(near_moves((2, 0)), [(0, 1), (1, 1)])
        self.assertEqual(near_moves((0, 2)), [(0, 1), (1, 1)])

    def test_small_settings_against_the_heaps(self):
        for setting in small_settings():
            self.assertEqual(near_moves(setting), model_near_moves(setting))

    def test_as_moves_tells_them(self):
        for start in range(100):
            setting = scattered(60, start)
            told = [move for move in moves(setting) if (setting[move[0]], move[1]) not in ((0, 2), (2, 0))]
            self.assertEqual(near_moves(setting), told)

    def test_sixty_discs(self):
        self.assertEqual(near_moves((0,) * 60), [(0, 1)])
        self.assertEqual(near_moves((1,) * 60), [(0, 0), (0, 2)])
        self.assertEqual(near_moves((2,) * 60), [(0, 1)])
        self.assertEqual(near_moves((0,) * 59 + (1,)), [(0, 1), (59, 2)])
        self.assertEqual(near_moves((2,) * 59 + (0,)), [(0, 1), (59, 1)])
        self.assertEqual(near_moves((1,) * 59 + (0,)), [(0, 0), (0, 2)])

    def test_its_kinds(self):
        for setting in ((), (1,), (0, 1, 2), scattered(60, 4)):
            check_moves(self, near_moves(setting))

    def test_what_is_no_setting_is_refused(self):
        for thing in no_settings():
            with self.assertRaises(BadSetting):
                near_moves(thing)


class Row(unittest.TestCase):
    def test_of_no_disc_and_one(self):
        self.assertEqual(row_number(()), 0)
        self.assertEqual(row_setting(0, 0), ())
        for peg in (0, 1, 2):
            self.assertEqual(row_number((peg,)), peg)
            self.assertEqual(row_setting(1, peg), (peg,))

    def test_two_discs(self):
        row = [(0, 0), (1, 0), (2, 0), (2, 1), (1, 1), (0, 1), (0, 2), (1, 2), (2, 2)]
        self.assertEqual([row_setting(2, number) for number in range(9)], row)
        self.assertEqual([row_number(setting) for setting in row], list(range(9)))

    def test_the_whole_row(self):
        for discs in range(8):
            row = near_row(discs)
            self.assertEqual(len(row), 3 ** discs)
            self.assertEqual((row[0], row[-1]), ((0,) * discs, (2,) * discs))
            self.assertEqual([row_setting(discs, number) for number in range(3 ** discs)], row)
            self.assertEqual([row_number(setting) for setting in row], list(range(3 ** discs)))

    def test_both_ends(self):
        for discs in range(61):
            self.assertEqual(row_number((0,) * discs), 0)
            self.assertEqual(row_number((2,) * discs), 3 ** discs - 1)
            self.assertEqual(row_setting(discs, 0), (0,) * discs)
            self.assertEqual(row_setting(discs, 3 ** discs - 1), (2,) * discs)

    def test_sixty_discs(self):
        known = {
            1: (1,) + (0,) * 59,
            2: (2,) + (0,) * 59,
            3: (2, 1) + (0,) * 58,
            LAST // 2: (1,) * 60,
            3 ** 59 - 1: (2,) * 59 + (0,),
            3 ** 59: (2,) * 59 + (1,),
            2 * 3 ** 59 - 1: (0,) * 59 + (1,),
            2 * 3 ** 59: (0,) * 59 + (2,),
            LAST - 2: (0,) + (2,) * 59,
            LAST - 1: (1,) + (2,) * 59,
        }
        for number, setting in known.items():
            self.assertEqual(row_number(setting), number)
            self.assertEqual(row_setting(60, number), setting)

    def test_sixty_discs_begin_as_few_do(self):
        for number, setting in enumerate(near_row(6)):
            self.assertEqual(row_number(tops_of_sixty(setting)), number)
            self.assertEqual(row_setting(60, number), tops_of_sixty(setting))

    def test_neighbours_are_a_near_move_apart_and_no_near_move_leads_elsewhere(self):
        for number in NUMBERS:
            setting = row_setting(60, number)
            beside = [near for near in (number - 1, number + 1) if 0 <= near <= LAST]
            behind = [model_moved(setting, move) for move in model_near_moves(setting)]
            self.assertEqual(sorted(row_number(near) for near in behind), beside)
            self.assertEqual(sorted(behind), sorted(row_setting(60, near) for near in beside))

    def test_the_number_of_each_setting_leads_back(self):
        for discs in range(61):
            for start in range(10):
                setting = scattered(discs, start)
                self.assertEqual(row_setting(discs, row_number(setting)), setting)
        for number in NUMBERS:
            self.assertEqual(row_number(row_setting(60, number)), number)

    def test_from_the_other_end(self):
        for start in range(50):
            setting = scattered(60, start)
            self.assertEqual(row_number(tuple(2 - peg for peg in setting)), LAST - row_number(setting))

    def test_their_kinds(self):
        for setting in ((), (1,), scattered(60, 4)):
            number = row_number(setting)
            self.assertIs(type(number), int)
            self.assertIs(type(row_setting(len(setting), number)), tuple)
            self.assertIs(is_setting(row_setting(len(setting), number)), True)

    def test_what_is_no_setting_is_refused(self):
        for thing in no_settings():
            with self.assertRaises(BadSetting):
                row_number(thing)

    def test_what_is_no_number_of_discs_is_refused(self):
        for discs in no_discs():
            with self.assertRaises(BadDiscs):
                row_setting(discs, 0)

    def test_what_is_no_number_there_is_refused(self):
        for discs in (0, 1, 2, 5, 59, 60):
            wrong = [-1, -2, 3 ** discs, 3 ** discs + 1, 3 ** 61, 10 ** 40, -10 ** 40, (), (0,), [], [0]]
            for number in odd_things() + wrong:
                with self.assertRaises(BadCount):
                    row_setting(discs, number)

    def test_bad_discs_is_told_first(self):
        for discs in no_discs():
            for number in (-1, None, True, "0", [0], 3 ** 60):
                with self.assertRaises(BadDiscs):
                    row_setting(discs, number)


class NearWays(unittest.TestCase):
    def test_of_alike_settings(self):
        for setting in small_settings(3) + [scattered(60, 3), (1,) * 60]:
            self.assertEqual(near_far(setting, setting), 0)
            self.assertEqual(near_way(setting, setting), [])

    def test_examples(self):
        self.assertEqual(near_way((0,), (2,)), [(0, 1), (0, 2)])
        self.assertEqual(near_way((2,), (0,)), [(0, 1), (0, 0)])
        self.assertEqual(near_way((1, 0), (1, 1)), [(0, 2), (1, 1), (0, 1)])
        self.assertEqual(near_far((0, 0), (2, 2)), 8)

    def test_each_pair_against_the_search(self):
        for other in small_settings(4):
            found = distances(other, model_near_moves)
            self.assertEqual(len(found), 3 ** len(other))
            for one in found:
                self.assertEqual(near_far(one, other), found[one])
                self.assertEqual([near_way(one, other)], shortest_ways(one, found, model_near_moves))

    def test_sixty_discs(self):
        self.assertEqual(near_far((0,) * 60, (2,) * 60), LAST)
        self.assertEqual(near_far((2,) * 60, (0,) * 60), LAST)
        self.assertEqual(near_far((0,) * 60, (1,) * 60), LAST // 2)
        self.assertEqual(near_way((2,) * 59 + (0,), (2,) * 59 + (1,)), [(59, 1)])
        self.assertEqual(near_way((1,) + (2,) * 58 + (1,), (2,) * 59 + (0,)), [(0, 2), (59, 0)])
        for start in range(30):
            one, other = scattered(60, start), scattered(60, start + 90)
            self.assertEqual(near_far(one, other), abs(row_number(one) - row_number(other)))
            self.assertEqual(near_far(one, other), near_far(other, one))

    def test_the_way_back(self):
        one, other = row_setting(7, 100), row_setting(7, 1900)
        there, back = near_way(one, other), near_way(other, one)
        self.assertEqual(model_walked(one, there), other)
        self.assertEqual(model_walked(other, back), one)
        self.assertEqual([disc for disc, _ in there], [disc for disc, _ in reversed(back)])

    def test_their_kinds(self):
        self.assertIs(type(near_far((0, 0), (1, 2))), int)
        self.assertIs(type(near_far((0,) * 60, (2,) * 60)), int)
        check_moves(self, near_way((0, 0), (2, 2)))

    def test_what_is_no_setting_is_refused(self):
        for function in (near_far, near_way):
            check_bad_settings(self, function)

    def test_unlike_many_discs_are_refused(self):
        for function in (near_far, near_way):
            check_unlike(self, function)


class TooFar(unittest.TestCase):
    def check_told(self, discs, begin, end):
        one, other = row_setting(discs, begin), row_setting(discs, end)
        self.assertEqual(near_far(one, other), 3000)
        told = near_way(one, other)
        self.assertEqual(len(told), 3000)
        self.assertEqual(model_walked(one, told), other)

    def check_refused(self, discs, begin, end):
        one, other = row_setting(discs, begin), row_setting(discs, end)
        self.assertEqual(near_far(one, other), abs(begin - end))
        for _ in range(2):
            with self.assertRaises(TooMany):
                near_way(one, other)

    def test_three_thousand_moves_are_told(self):
        self.check_told(8, 0, 3000)
        self.check_told(8, 6560, 3560)
        self.check_told(60, 3 ** 59 - 1200, 3 ** 59 + 1800)
        self.check_told(60, LAST, LAST - 3000)

    def test_one_more_is_refused(self):
        self.check_refused(8, 0, 3001)
        self.check_refused(8, 6560, 3559)
        self.check_refused(60, 3 ** 59 - 1200, 3 ** 59 + 1801)
        self.check_refused(60, LAST, LAST - 3001)

    def test_far_away(self):
        self.check_refused(8, 0, 6560)
        self.check_refused(60, 0, LAST)
        self.check_refused(60, LAST, 0)

    def test_near_moves_alone_decide(self):
        one, other = (0,) * 8, (2,) * 8
        self.assertEqual(far(one, other), 255)
        self.assertEqual(len(ways(one, other)), 1)
        with self.assertRaises(TooMany):
            near_way(one, other)


class TheAskersOwn(unittest.TestCase):
    def test_a_changed_list_changes_nothing_told_later(self):
        for function, arguments in (
            (near_moves, ((1, 2),)),
            (near_way, ((0, 0), (2, 2))),
            (near_way, ((1, 0), (0, 1))),
        ):
            kept = list(function(*arguments))
            told = function(*arguments)
            told.append("x")
            told[0] = None
            self.assertEqual(function(*arguments), kept)
            told.clear()
            self.assertEqual(function(*arguments), kept)

    def test_what_is_handed_in_stays(self):
        one, other, wrong = (1, 0), (0, 1), [0, 1]
        for function in (near_far, near_way):
            function(one, other)
            for first, second in ((one, wrong), (wrong, other)):
                with self.assertRaises(BadSetting):
                    function(first, second)
        for function in (near_moves, row_number):
            function(one)
            with self.assertRaises(BadSetting):
                function(wrong)
        self.assertEqual((one, other, wrong), ((1, 0), (0, 1), [0, 1]))

    def test_asked_again_the_same_is_told(self):
        one, other = scattered(6, 1), scattered(6, 2)
        for function in (near_far, near_way):
            self.assertEqual(function(one, other), function(one, other))
        for function in (near_moves, row_number):
            self.assertEqual(function(one), function(one))
        self.assertEqual(row_setting(6, 500), row_setting(6, 500))


if __name__ == "__main__":
    unittest.main()
