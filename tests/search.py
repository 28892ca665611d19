"""Searches that go out from a setting move by move; they know nothing of the program."""

from samples import model_moved, model_moves

NEAR = {(0, 1), (1, 0), (1, 2), (2, 1)}


def model_near_moves(setting):
    return [(disc, peg) for disc, peg in model_moves(setting) if (setting[disc], peg) in NEAR]


def distances(start, moves_of=model_moves):
    """How far each setting is from the start."""
    found = {start: 0}
    edge = [start]
    while edge:
        ahead = []
        for setting in edge:
            for move in moves_of(setting):
                behind = model_moved(setting, move)
                if behind not in found:
                    found[behind] = found[setting] + 1
                    ahead.append(behind)
        edge = ahead
    return found


def shortest_ways(one, far_to_end, moves_of=model_moves):
    """All shortest ways from a setting; far_to_end tells how far each setting is from the end."""
    if far_to_end[one] == 0:
        return [[]]
    found = []
    for move in moves_of(one):
        behind = model_moved(one, move)
        if far_to_end[behind] == far_to_end[one] - 1:
            found += [[move] + rest for rest in shortest_ways(behind, far_to_end, moves_of)]
    return found


def least_by_goes(one, disc):
    """How many moves lead to each pair (setting, how often the disc went), greater discs at rest."""
    found = {(one, 0): 0}
    edge = [(one, 0)]
    while edge:
        ahead = []
        for setting, goes in edge:
            for move in model_moves(setting):
                key = (model_moved(setting, move), goes + (move[0] == disc))
                if move[0] <= disc and key[1] <= 2 and key not in found:
                    found[key] = found[(setting, goes)] + 1
                    ahead.append(key)
        edge = ahead
    return found


def model_walked(setting, steps):
    """The setting behind all the moves; each must be one that may be."""
    for move in steps:
        if move not in model_moves(setting):
            raise AssertionError(f"{move} may not be at {setting}")
        setting = model_moved(setting, move)
    return setting


def near_row(discs):
    """The row of all settings, gone from all on peg 0 on, never back."""
    row = [(0,) * discs]
    while True:
        ahead = [model_moved(row[-1], move) for move in model_near_moves(row[-1])]
        ahead = [setting for setting in ahead if setting not in row[-2:]]
        if not ahead:
            return row
        (setting,) = ahead
        row.append(setting)
