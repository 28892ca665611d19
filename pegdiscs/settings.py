"""Settings of discs on three pegs, and the moves from one to the next."""

from pegdiscs.errors import BadDiscs, BadMove, BadPegs, BadSetting, Unlike

MOST_DISCS = 60
PEGS = (0, 1, 2)


def is_whole(thing, most):
    """Tell whether the thing is a whole number from 0 to most."""
    # The exact kind is asked for because True and False are ints to isinstance.
    return type(thing) == int and 0 <= thing <= most


def is_peg(thing):
    """Tell whether the thing is a peg."""
    return is_whole(thing, 2)


def is_setting(thing):
    """Tell whether the thing is a setting: a tuple with a peg for each of 0 to 60 discs."""
    if type(thing) != tuple or len(thing) > MOST_DISCS:
        return False
    return all(is_peg(peg) for peg in thing)


def check_setting(thing):
    """Refuse what is no setting."""
    if not is_setting(thing):
        raise BadSetting("a setting is a tuple of at most 60 pegs, each 0, 1 or 2")


def check_two(one, other):
    """Refuse what are no two settings of as many discs."""
    check_setting(one)
    check_setting(other)
    if len(one) != len(other):
        raise Unlike("the two settings need as many discs")


def check_discs(thing):
    """Refuse what is no number of discs."""
    if not is_whole(thing, MOST_DISCS):
        raise BadDiscs("the discs are a whole number from 0 to 60")


def check_peg(thing):
    """Refuse what is no peg."""
    if not is_peg(thing):
        raise BadPegs("a peg is 0, 1 or 2")


def third_peg(one, other):
    """Tell the peg that is neither of two unlike ones."""
    return 3 - one - other


def perfect(discs, peg):
    """Tell the setting with all discs, so many, on one peg."""
    check_discs(discs)
    check_peg(peg)
    return (peg,) * discs


def can_go(setting, disc, peg):
    """Tell whether that disc of the setting may go to that peg."""
    # A lesser disc lies upon this one where they share a peg, and would lie beneath it there.
    lesser = setting[:disc]
    own = setting[disc]
    return peg != own and own not in lesser and peg not in lesser


def may_be(setting, thing):
    """Tell whether the thing, of any kind, is a move that may be at the setting."""
    if type(thing) != tuple or len(thing) != 2:
        return False
    disc, peg = thing
    if not is_whole(disc, len(setting) - 1) or not is_peg(peg):
        return False
    return can_go(setting, disc, peg)


def behind(setting, move):
    """Tell the setting behind a move that may be."""
    disc, peg = move
    return setting[:disc] + (peg,) + setting[disc + 1:]


def moves(setting):
    """Tell the list of moves that may be, by discs, then by pegs."""
    check_setting(setting)
    found = []
    for disc in range(len(setting)):
        found.extend([(disc, peg) for peg in PEGS if can_go(setting, disc, peg)])
    return found


def moved(setting, move):
    """Tell the setting behind the move."""
    check_setting(setting)
    if not may_be(setting, move):
        raise BadMove(0)
    return behind(setting, move)


def walked(setting, moves):
    """Tell the list of settings: the first one, and that behind each of the moves."""
    check_setting(setting)
    if type(moves) != list:
        raise BadMove(None)
    now = setting
    settings = [now]
    for place, move in enumerate(moves):
        if not may_be(now, move):
            raise BadMove(place)
        now = behind(now, move)
        settings.append(now)
    return settings
