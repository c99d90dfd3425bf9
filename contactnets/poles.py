"""The places of a net at a setting: pieces, rings, places that are joined, and switches that turn."""

from contactnets.errors import NoPlace
from contactnets.nets import function_of, is_whole, places_from, settings, shut_at, shut_contacts


def pieces_at(net, setting):
    contacts = shut_contacts(net, setting)
    told = []
    for place in range(net[1]):
        piece = tuple(sorted(places_from(place, contacts)))
        if piece[0] == place:
            told.append(piece)
    return told


def rings_at(net, setting):
    return len(shut_at(net, setting)) - net[1] + len(pieces_at(net, setting))


def refuse_no_place(net, thing):
    if not is_whole(thing) or not 0 <= thing < net[1]:
        raise NoPlace("this is no place of the net")


def in_one_piece(net, one, other, setting):
    return other in places_from(one, shut_contacts(net, setting))


def between(net, one, other):
    refuse_no_place(net, one)
    refuse_no_place(net, other)
    return tuple([1 if in_one_piece(net, one, other, setting) else 0 for setting in settings(net[0])])


def pairs_of(places):
    told = []
    for one in range(places):
        told.extend([(one, other) for other in range(one + 1, places)])
    return told


def always_joined(net):
    return [pair for pair in pairs_of(net[1]) if all(between(net, pair[0], pair[1]))]


def never_joined(net):
    return [pair for pair in pairs_of(net[1]) if not any(between(net, pair[0], pair[1]))]


def exchanged(setting, switch):
    return setting[:switch] + (1 - setting[switch],) + setting[switch + 1:]


def turn_counts(net):
    bits = dict(zip(settings(net[0]), function_of(net)))
    told = []
    for switch in range(net[0]):
        told.append(len([setting for setting in bits if bits[setting] != bits[exchanged(setting, switch)]]))
    return tuple(told)


def used(net):
    return tuple([switch for switch, count in enumerate(turn_counts(net)) if count > 0])
