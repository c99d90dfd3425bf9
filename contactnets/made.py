"""Nets made of nets: in a row, side by side, turned about, with a contact cut or bridged."""

from contactnets.errors import NoBridge, NoContact, TooMany
from contactnets.nets import is_whole


# New numbers may exchange which place is the lesser one, and a net has that one ahead.
def moved_contact(contact, new):
    return tuple(sorted([new[contact[0]], new[contact[1]]])) + contact[2:]


def moved(contacts, new):
    return tuple([moved_contact(contact, new) for contact in contacts])


def net_within(switches, places, contacts):
    if places > 7:
        raise TooMany("there would be more than seven places")
    if len(contacts) > 16:
        raise TooMany("there would be more than sixteen contacts")
    return (switches, places, contacts)


def in_row(one, other):
    middle = one[1] + other[1] - 2
    first = moved(one[2], [0, middle] + list(range(2, one[1])))
    second = moved(other[2], [middle, 1] + list(range(one[1], middle)))
    return net_within(one[0], middle + 1, first + second)


def side_by_side(one, other):
    places = one[1] + other[1] - 2
    second = moved(other[2], [0, 1] + list(range(one[1], places)))
    return net_within(one[0], places, one[2] + second)


def about(net):
    return (net[0], net[1], moved(net[2], [1, 0] + list(range(2, net[1]))))


def refuse_no_contact(net, number):
    if not is_whole(number) or not 0 <= number < len(net[2]):
        raise NoContact("there is no contact of this number")


def cut(net, number):
    refuse_no_contact(net, number)
    return (net[0], net[1], net[2][:number] + net[2][number + 1:])


def bridged(net, number):
    refuse_no_contact(net, number)
    lesser = net[2][number][0]
    greater = net[2][number][1]
    if greater == 1:
        raise NoBridge("a contact between the places 0 and 1 is not bridged")
    new = list(range(greater)) + [lesser] + list(range(greater, net[1] - 1))
    left = [contact for contact in net[2] if new[contact[0]] != new[contact[1]]]
    return (net[0], net[1] - 1, moved(left, new))
