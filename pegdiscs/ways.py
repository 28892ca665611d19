"""Shortest ways from one setting to another one: how far, how many, and which."""

from pegdiscs.errors import TooMany
from pegdiscs.settings import check_peg, check_setting, check_two, third_peg

MOST_TOLD = 3000


def check_told(distance):
    """Refuse a way that has more moves than are told in a list."""
    if distance > MOST_TOLD:
        raise TooMany("a way of more than 3000 moves is not told")


def due(setting, peg):
    """Tell the move of each disc that must go if all are to come to the peg, the greatest disc first."""
    found = []
    goal = peg
    for disc in reversed(range(len(setting))):
        own = setting[disc]
        if own != goal:
            found.append((disc, goal))
            # A disc goes only while all lesser ones stand aside of where it is and where it goes.
            goal = third_peg(own, goal)
    return found


def distance_toward(setting, peg):
    """Tell how far it is from a setting to all discs on a peg."""
    # Behind the one move of a disc all lesser ones follow it: 2 to their number, less 1.
    return sum([1 << disc for disc, _ in due(setting, peg)])


def tower(discs, begin, end):
    """Tell the moves of all discs, so many, from one peg to another one."""
    if discs == 0:
        return []
    aside = third_peg(begin, end)
    return tower(discs - 1, begin, aside) + [(discs - 1, end)] + tower(discs - 1, aside, end)


def gathered(setting, peg):
    """Tell the moves by which all discs of a setting come to one peg."""
    told = []
    for disc, goal in reversed(due(setting, peg)):
        told.append((disc, goal))
        told.extend(tower(disc, third_peg(setting[disc], goal), goal))
    return told


def spread(peg, setting):
    """Tell the moves by which all discs come from one peg to where the setting has them."""
    told = []
    # This is the way of gathered, gone from its end to its begin.
    for disc, begin in due(setting, peg):
        own = setting[disc]
        told.extend(tower(disc, begin, third_peg(begin, own)))
        told.append((disc, own))
    return told


def greatest_unlike(one, other):
    """Tell the greatest disc that stands on unlike pegs, None where there is none."""
    for disc in reversed(range(len(one))):
        if one[disc] != other[disc]:
            return disc
    return None


def way_once(one, other, disc):
    """Tell the way by which the greatest disc on unlike pegs goes once."""
    new = other[disc]
    aside = third_peg(one[disc], new)
    return gathered(one[:disc], aside) + [(disc, new)] + spread(aside, other[:disc])


def way_twice(one, other, disc):
    """Tell the way by which the greatest disc on unlike pegs goes twice."""
    old = one[disc]
    new = other[disc]
    told = gathered(one[:disc], new)
    told.append((disc, third_peg(old, new)))
    told.extend(tower(disc, new, old))
    told.append((disc, new))
    told.extend(spread(old, other[:disc]))
    return told


def toward(setting, peg):
    """Tell how far it is from the setting to all discs on that peg."""
    check_setting(setting)
    check_peg(peg)
    return distance_toward(setting, peg)


def choices(one, other):
    """Tell the greatest disc on unlike pegs, and how many moves it takes if that goes once, and twice."""
    check_two(one, other)
    disc = greatest_unlike(one, other)
    if disc is None:
        return None
    old = one[disc]
    new = other[disc]
    aside = third_peg(old, new)
    once = distance_toward(one[:disc], aside) + 1 + distance_toward(other[:disc], aside)
    # Between its two moves all lesser discs go from one peg to another one: 2 to their number, less 1.
    twice = distance_toward(one[:disc], new) + 1 + (1 << disc) + distance_toward(other[:disc], old)
    return (disc, once, twice)


def far(one, other):
    """Tell how many moves the shortest ways have."""
    told = choices(one, other)
    if told is None:
        return 0
    _, once, twice = told
    return min(once, twice)


def many_ways(one, other):
    """Tell how many shortest ways there are."""
    told = choices(one, other)
    if told is None:
        return 1
    _, once, twice = told
    return 2 if once == twice else 1


def next_move(one, other):
    """Tell the first move of the told way, None of alike settings."""
    told = choices(one, other)
    if told is None:
        return None
    disc, once, twice = told
    goal = other[disc]
    if twice < once:
        goal = third_peg(one[disc], goal)
    # The least disc that must go for that is the first one that can.
    return due(one[:disc + 1], goal)[-1]


def ways(one, other):
    """Tell the list of all shortest ways, that by which the greatest disc on unlike pegs goes once first."""
    told = choices(one, other)
    if told is None:
        return [[]]
    disc, once, twice = told
    check_told(min(once, twice))
    found = []
    if once <= twice:
        found.append(way_once(one, other, disc))
    if twice <= once:
        found.append(way_twice(one, other, disc))
    return found


def way(one, other):
    """Tell the first of the shortest ways."""
    return ways(one, other)[0]
