"""The settings on the shortest way of all discs from one peg to another one, by their numbers."""

from pegdiscs.errors import BadCount, BadPegs
from pegdiscs.settings import check_discs, check_peg, check_setting, is_whole, third_peg


def check_begin_end(begin, end):
    """Refuse what are no two unlike pegs."""
    check_peg(begin)
    check_peg(end)
    if begin == end:
        raise BadPegs("the way goes from one peg to another one")


def setting_at(discs, begin, end, number):
    """Tell the setting of that number on the way of all discs from begin to end."""
    check_discs(discs)
    check_begin_end(begin, end)
    if not is_whole(number, (1 << discs) - 1):
        raise BadCount("a number of a setting is a whole one, less than 2 to the number of discs")
    pegs = []
    for disc in reversed(range(discs)):
        aside = third_peg(begin, end)
        # Ahead of the one move of a disc the lesser ones go aside, and behind it they follow.
        if number >> disc & 1:
            pegs.append(end)
            begin = aside
        else:
            pegs.append(begin)
            end = aside
    return tuple(pegs[::-1])


def number_of(setting, begin, end):
    """Tell the number of the setting on the way of all discs from begin to end, None of one beside it."""
    check_setting(setting)
    check_begin_end(begin, end)
    number = 0
    for disc in reversed(range(len(setting))):
        aside = third_peg(begin, end)
        if setting[disc] == aside:
            return None
        if setting[disc] == end:
            number += 1 << disc
            begin = aside
        else:
            end = aside
    return number
