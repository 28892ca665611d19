"""What several tests share: odd things, all small settings, and a plain model of the pegs."""

from itertools import product


class Odd:
    """Equal to everything, so that only its kind tells that it is no number and no tuple."""

    def __eq__(self, other):
        return True

    def __hash__(self):
        return 0


class Harsh:
    """Can't be compared, measured, iterated or hashed."""

    __hash__ = None

    def fail(self, *rest):
        raise RuntimeError("nobody may ask")

    __eq__ = __lt__ = __le__ = __gt__ = __ge__ = fail
    __len__ = __iter__ = __getitem__ = __contains__ = __bool__ = fail
    __str__ = __repr__ = __index__ = __int__ = fail


def odd_things():
    """Things that are no number, no tuple and no list, made anew."""
    return [
        None, True, False, "", "0", "012", b"", b"\x00\x01", {}, {0: 1}, set(), {0, 1},
        frozenset({0}), range(2), iter([0]), object(), Odd(), Harsh(), int, tuple, len,
    ]


def no_pegs():
    return odd_things() + [-1, 3, 60, 10 ** 40, -10 ** 40, (), (0,), [], [0]]


def no_settings():
    wrong = odd_things() + [0, 1, 2, 60, -1, [], [0], [0, 1, 2], [(0, 1)]]
    wrong += [(0,) * 61, (2,) * 100, (1,) * 100000]
    for peg in no_pegs():
        wrong += [(peg,), (0, peg), (peg, 1, 2), (2,) * 59 + (peg,)]
    return wrong


def no_discs():
    """Things that are no number of discs."""
    return odd_things() + [-1, -60, 61, 62, 10 ** 40, -10 ** 40, (), (3,), [], [3], "3"]


def no_moves():
    """Things that are a move at no setting."""
    wrong = odd_things() + [0, 1, [], [0, 1], (), (0,), (1,), (0, 1, 2), (0, 1, 1), ((0, 1),)]
    for peg in no_pegs():
        wrong.append((0, peg))
    for disc in odd_things() + [-1, -2, 60, 61, 10 ** 40, (), (0,), [0]]:
        wrong += [(disc, 0), (disc, 1), (disc, 2)]
    return wrong


def small_settings(most=5):
    return [setting for discs in range(most + 1) for setting in product((0, 1, 2), repeat=discs)]


def scattered(discs, start):
    """A setting without a plain pattern, always the same one for the same start."""
    found = []
    at = start
    for _ in range(discs):
        at = (at * 1103515245 + 12345) % 2 ** 31
        found.append(at // 65536 % 3)
    return tuple(found)


def of_digits(text):
    """The setting whose pegs are the digits of the text, that of disc 0 first."""
    return tuple(int(digit) for digit in text)


def heaps(setting):
    """The discs of each peg, the lowest one first."""
    return [[disc for disc in reversed(range(len(setting))) if setting[disc] == peg] for peg in range(3)]


def model_moves(setting):
    """The moves that may be, found by taking the upmost disc off each heap."""
    found = []
    pegs = heaps(setting)
    for begin in range(3):
        for end in range(3):
            if begin != end and pegs[begin] and (not pegs[end] or pegs[end][-1] > pegs[begin][-1]):
                found.append((pegs[begin][-1], end))
    return sorted(found)


def model_moved(setting, move):
    disc, peg = move
    behind = list(setting)
    behind[disc] = peg
    return tuple(behind)


def tower_moves(discs, begin, end):
    """The moves of all discs from one peg to another one."""
    if discs == 0:
        return []
    third = 3 - begin - end
    ahead = tower_moves(discs - 1, begin, third)
    return ahead + [(discs - 1, end)] + tower_moves(discs - 1, third, end)
