"""Nets that are alike: the same function, contacts that may go, and lots of alike nets."""

from contactnets.made import bridged, cut
from contactnets.nets import function_of, settings


def first_unlike(one, other):
    for setting, first, second in zip(settings(one[0]), function_of(one), function_of(other)):
        if first != second:
            return setting
    return None


def are_alike(one, other):
    return first_unlike(one, other) is None


def is_idle(net, number):
    return are_alike(cut(net, number), net)


def is_plain(net, number):
    if net[2][number][:2] == (0, 1):
        return False
    return are_alike(bridged(net, number), net)


def idle(net):
    return tuple([number for number in range(len(net[2])) if is_idle(net, number)])


def plain(net):
    return tuple([number for number in range(len(net[2])) if is_plain(net, number)])


# Where a contact is left out the next one takes its number, so only one that stays is passed by.
def trimmed(net):
    left = net
    number = 0
    while number < len(left[2]):
        if is_idle(left, number):
            left = cut(left, number)
        else:
            number = number + 1
    return left


def lots(nets):
    found = {}
    for number, net in enumerate(nets):
        found.setdefault(function_of(net), []).append(number)
    return list(found.values())
