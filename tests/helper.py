"""What several tests need: nets to ask of, odd things, and a plain going-through of all choices."""

import itertools

from contactnets import errors

REFUSALS = ["TooMany", "NoContact", "NoBridge", "NoPlace", "NoTable", "NoName", "BadNote"]

LADDER = (3, 4, ((0, 2, 0, 1), (0, 3, 1, 1), (2, 3, 2, 1), (1, 2, 1, 0), (1, 3, 0, 0)))
ALIKE = (2, 3, ((0, 2, 0, 1), (0, 2, 0, 1), (1, 2, 1, 0), (1, 2, 1, 0)))
LOOSE_ENDS = (2, 5, ((2, 3, 0, 1), (0, 1, 1, 0), (0, 2, 0, 0), (3, 4, 1, 1)))
APART = (2, 5, ((0, 2, 0, 1), (2, 4, 1, 1), (1, 3, 0, 0)))
EMPTY = (1, 2, ())
CHAIN = (4, 7, ((5, 6, 3, 1), (1, 6, 0, 1), (0, 2, 0, 1), (4, 5, 2, 1), (2, 3, 1, 0), (3, 4, 2, 1)))


def fixed_row():
    """A fixed row of numbers below what is asked, so that each run asks the same."""
    state = 12345

    def below(bound):
        nonlocal state
        state = (state * 1103515245 + 12345) % 2147483648
        return (state >> 8) % bound

    return below


def made_nets(count, most_places=7, most_contacts=9):
    below = fixed_row()
    nets = []
    for _ in range(count):
        switches = 1 + below(4)
        places = 2 + below(most_places - 1)
        contacts = []
        for _ in range(below(most_contacts + 1)):
            pair = sorted([below(places), below(places)])
            if pair[0] < pair[1]:
                contacts.append((pair[0], pair[1], below(switches), below(2)))
        nets.append((switches, places, tuple(contacts)))
    return nets


NETS = [LADDER, ALIKE, LOOSE_ENDS, APART, EMPTY, CHAIN] + made_nets(60)

DOUBLED_CHAIN = (4, 7, ((0, 2, 0, 1), (0, 2, 1, 0), (0, 2, 2, 1), (2, 3, 3, 1), (2, 3, 0, 0), (2, 3, 1, 1),
                        (3, 4, 2, 0), (3, 4, 3, 0), (3, 4, 0, 1), (4, 5, 1, 1), (4, 5, 2, 1), (4, 5, 3, 1),
                        (5, 6, 0, 1), (5, 6, 1, 0), (1, 6, 2, 1), (1, 6, 3, 0)))
DENSE = (4, 7, tuple((a, b, (a + b) % 4, (a * b) % 2) for a, b in itertools.combinations(range(7), 2)
                     if (a, b) not in ((0, 1), (2, 5), (3, 6), (0, 4), (1, 2))))
SPLIT = (4, 7, tuple((a, b, (a + 2 * b) % 4, a % 2) for a, b in
                     ((0, 2), (0, 3), (2, 3), (0, 4), (2, 4), (3, 4), (0, 2), (0, 3),
                      (1, 5), (1, 6), (5, 6), (1, 5), (1, 6), (5, 6), (1, 5), (1, 6))))
LARGE_NETS = [DOUBLED_CHAIN, DENSE, SPLIT]


def deep(depth):
    thing = ()
    for _ in range(depth):
        thing = (thing,)
    return thing


ODD_THINGS = [None, True, False, 0, 1, -1, 10 ** 29, "", "0", "(0,)", [], [0], [[]], {}, {0: 1}, {"a": [1]},
              (None,), (True,), (False,), ("0",), ((0,),), ([0],), ({},), (-1,), (10 ** 29,), (0, None), (0, True),
              deep(59), tuple([0] * 999), tuple(range(999))]


NO_NUMBERS = [None, True, False, -1, -2, -10 ** 29, 10 ** 29, "", "0", "2", [], [0], [2], {}, {0: 1}, (), (0,), (2,),
              (0, 1, 0, 1), deep(59)]


def refused(case, kind, asked, *arguments):
    """The refusal is of its class, a NetError, a ValueError, and of none of the other classes."""
    with case.assertRaises(ValueError) as caught:
        asked(*arguments)
    found = [name for name in REFUSALS if isinstance(caught.exception, getattr(errors, name))]
    case.assertEqual(found, [kind], arguments)
    case.assertEqual(type(caught.exception).__bases__, (errors.NetError,))


def only_of(thing, *kinds):
    """Whether a thing is built of just these kinds; True and False count as no whole numbers."""
    if type(thing) not in kinds:
        return False
    return not isinstance(thing, (tuple, list)) or all(only_of(part, *kinds) for part in thing)


def otherwise(thing):
    """All that comes of a tuple or list of whole numbers, texts and the like with one thing in it otherwise."""
    told = [None, "", [], (), {}, True, False, 2, -1, (thing,), [thing]]
    if isinstance(thing, (tuple, list)):
        kind = type(thing)
        told.append((list if kind is tuple else tuple)(thing))
        told.append(thing + kind([0]))
        for index, part in enumerate(thing):
            told.append(thing[:index] + thing[index + 1:])
            told.append(thing[:index] + kind([part]) + thing[index:])
            told += [thing[:index] + kind([other]) + thing[index + 1:] for other in otherwise(part)]
    elif thing in (0, 1):
        told += [bool(thing), str(thing)]
    return [other for other in told if not same_of_kind(other, thing)]


def same_of_kind(one, other):
    """Equal, and True is not 1."""
    if type(one) is not type(other):
        return False
    if isinstance(one, (tuple, list)):
        return len(one) == len(other) and all(same_of_kind(*pair) for pair in zip(one, other))
    return one == other


def plain_settings(switches):
    return list(itertools.product((0, 1), repeat=switches))


def plain_shut(net, setting):
    return tuple(number for number, (_, _, switch, on) in enumerate(net[2])
                 if (setting[switch] == 1 and on == 1) or (setting[switch] == 0 and on == 0))


def plain_marks(net, numbers):
    """Each place bears a mark; a contact gives both marks the one of them."""
    marks = list(range(net[1]))
    for number in numbers:
        a, b = net[2][number][:2]
        if marks[a] != marks[b]:
            old, new = marks[a], marks[b]
            marks = [new if mark == old else mark for mark in marks]
    return marks


def plain_joins(net, numbers):
    marks = plain_marks(net, numbers)
    return marks[0] == marks[1]


def plain_pieces(net, setting):
    marks = plain_marks(net, plain_shut(net, setting))
    return sorted({tuple(place for place in range(net[1]) if marks[place] == mark) for mark in marks})


def plain_function(net):
    return tuple(int(plain_joins(net, plain_shut(net, setting))) for setting in plain_settings(net[0]))


def plain_choices(net):
    """All ways and all bars, by going through each choice of contacts."""
    count = len(net[2])
    every = (1 << count) - 1
    numbers = [tuple(n for n in range(count) if mask >> n & 1) for mask in range(every + 1)]
    joining = [plain_joins(net, some) for some in numbers]
    ways = []
    bars = []
    for mask, some in enumerate(numbers):
        if joining[mask] and not any(joining[mask & ~(1 << n)] for n in some):
            ways.append(some)
        rest = every & ~mask
        if not joining[rest] and all(joining[rest | (1 << n)] for n in some):
            bars.append(some)
    return sorted(ways), sorted(bars)


def thick(places, count):
    return (1, places, tuple((0, 1, 0, number % 2) for number in range(count)))


def with_places(net, new):
    return tuple((min(new(a), new(b)), max(new(a), new(b)), switch, on) for a, b, switch, on in net[2])


def plain_row(one, other):
    p, q = one[1], other[1]
    first = with_places(one, lambda k: p + q - 2 if k == 1 else k)
    second = with_places(other, lambda k: p + q - 2 if k == 0 else 1 if k == 1 else k + p - 2)
    return (one[0], p + q - 1, first + second)


def plain_side(one, other):
    p, q = one[1], other[1]
    return (one[0], p + q - 2, one[2] + with_places(other, lambda k: k if k < 2 else k + p - 2))


def fits(net):
    return net[1] <= 7 and len(net[2]) <= 16


def plain_about(net):
    return (net[0], net[1], with_places(net, lambda k: 1 - k if k < 2 else k))


def plain_cut(net, number):
    return (net[0], net[1], tuple(contact for other, contact in enumerate(net[2]) if other != number))


def plain_bridged(net, number):
    a, b = net[2][number][:2]
    left = tuple(contact for contact in with_places(net, lambda k: a if k == b else k - (k > b))
                 if contact[0] != contact[1])
    return (net[0], net[1] - 1, left)


def plain_trimmed(net):
    """The contacts that stay are picked by their first numbers."""
    stay = list(range(len(net[2])))
    for number in range(len(net[2])):
        fewer = [other for other in stay if other != number]
        if plain_function((net[0], net[1], tuple(net[2][other] for other in fewer))) == plain_function(net):
            stay = fewer
    return (net[0], net[1], tuple(net[2][other] for other in stay))
