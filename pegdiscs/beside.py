"""Near moves, those to the peg beside, and the row in which they set all settings."""

from pegdiscs.errors import BadCount
from pegdiscs.settings import check_discs, check_setting, check_two, is_whole, moves
from pegdiscs.ways import check_told, greatest_unlike


def near_moves(setting):
    """Tell the list of near moves that may be, by discs, then by pegs."""
    return [(disc, peg) for disc, peg in moves(setting) if abs(setting[disc] - peg) == 1]


def row_length(discs):
    """Tell how many settings of so many discs there are."""
    length = 1
    for _ in range(discs):
        length = length * 3
    return length


def mirrored_if(turned, peg):
    """Tell the peg, or the opposite one where the row is gone backward."""
    return 2 - peg if turned else peg


def number_in_row(setting):
    """Tell the number of a setting in the row."""
    number = 0
    turned = False
    for peg in reversed(setting):
        number = number * 3 + mirrored_if(turned, peg)
        # While a disc stands on peg 1 the lesser ones go their row the other way.
        if peg == 1:
            turned = not turned
    return number


def setting_in_row(discs, number):
    """Tell the setting of a number that there is in the row."""
    pegs = []
    turned = False
    place = row_length(discs)
    for _ in range(discs):
        place = place // 3
        peg = mirrored_if(turned, number // place % 3)
        pegs.append(peg)
        if peg == 1:
            turned = not turned
    return tuple(pegs[::-1])


def row_number(setting):
    """Tell the number of the setting in the row."""
    check_setting(setting)
    return number_in_row(setting)


def row_setting(discs, number):
    """Tell the setting of that number in the row of so many discs."""
    check_discs(discs)
    if not is_whole(number, row_length(discs) - 1):
        raise BadCount("a number in the row is a whole one, less than 3 to the number of discs")
    return setting_in_row(discs, number)


def near_far(one, other):
    """Tell how many near moves the shortest way of them has."""
    check_two(one, other)
    return abs(number_in_row(one) - number_in_row(other))


def near_way(one, other):
    """Tell the list of near moves of the shortest way of them."""
    check_told(near_far(one, other))
    begin = number_in_row(one)
    end = number_in_row(other)
    by = 1 if begin < end else -1
    told = []
    now = one
    for number in range(begin + by, end + by, by):
        reached = setting_in_row(len(one), number)
        # Neighbours in the row differ in the one disc that goes.
        disc = greatest_unlike(now, reached)
        told.append((disc, reached[disc]))
        now = reached
    return told
