"""What all that are handed two settings refuse, and the kinds of what they tell."""

from pegdiscs.errors import BadSetting, Unlike

from samples import no_settings

GOOD = ((), (0,), (0, 1, 2), (2,) * 60)


def check_bad_settings(test, function):
    """Bad ones are refused at either place, and where both are bad; Unlike is told later."""
    for thing in no_settings():
        for good in GOOD:
            for one, other in ((thing, good), (good, thing), (thing, thing)):
                with test.assertRaises(BadSetting):
                    function(one, other)


def check_unlike(test, function):
    """Unlike many discs are refused, also where the settings are far apart."""
    pairs = [((), (0,)), ((0,), (0, 0)), ((0, 1, 2), (0, 1)), ((0,) * 59, (0,) * 60), ((), (1,) * 60)]
    pairs += [((0,) * 59, (2,) * 60), ((0,) * 20, (1,) * 40)]
    for one, other in pairs:
        for first, second in ((one, other), (other, one)):
            with test.assertRaises(Unlike):
                function(first, second)


def check_moves(test, told):
    """What was told is a list of moves, tuples of two whole numbers."""
    test.assertIs(type(told), list)
    for move in told:
        test.assertIs(type(move), tuple)
        test.assertEqual([type(part) for part in move], [int, int])
