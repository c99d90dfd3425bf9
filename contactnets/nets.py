"""Nets of contacts, the settings of their switches, and their functions."""


# Python counts True and False as int; here they are no whole numbers.
def is_whole(thing):
    return isinstance(thing, int) and not isinstance(thing, bool)


def is_bit(thing):
    return is_whole(thing) and 0 <= thing <= 1


def is_contact(switches, places, thing):
    if not isinstance(thing, tuple) or len(thing) != 4:
        return False
    if not all([is_whole(part) for part in thing]):
        return False
    if not 0 <= thing[0] < thing[1] < places:
        return False
    return 0 <= thing[2] < switches and is_bit(thing[3])


def is_net(thing):
    if not isinstance(thing, tuple) or len(thing) != 3:
        return False
    switches = thing[0]
    places = thing[1]
    contacts = thing[2]
    if not is_whole(switches) or not 1 <= switches <= 4:
        return False
    if not is_whole(places) or not 2 <= places <= 7:
        return False
    if not isinstance(contacts, tuple) or len(contacts) > 16:
        return False
    return all([is_contact(switches, places, contact) for contact in contacts])


def settings(switches):
    told = [()]
    for switch in range(switches):
        told = [(0,) + rest for rest in told] + [(1,) + rest for rest in told]
    return told


def is_shut(contact, setting):
    return setting[contact[2]] == contact[3]


def shut_at(net, setting):
    return tuple([number for number, contact in enumerate(net[2]) if is_shut(contact, setting)])


# A single round is not enough: a contact may be met before either of its places is found.
def places_from(start, contacts):
    found = {start: True}
    grown = True
    while grown:
        grown = False
        for contact in contacts:
            if (contact[0] in found) != (contact[1] in found):
                found[contact[0]] = True
                found[contact[1]] = True
                grown = True
    return found


def joins(contacts):
    return 1 in places_from(0, contacts)


def shut_contacts(net, setting):
    return [contact for contact in net[2] if is_shut(contact, setting)]


def lets(net, setting):
    return joins(shut_contacts(net, setting))


def is_function(switches, thing):
    if not isinstance(thing, tuple) or len(thing) != len(settings(switches)):
        return False
    return all([is_bit(part) for part in thing])


def function_of(net):
    return tuple([1 if lets(net, setting) else 0 for setting in settings(net[0])])


# There are two settings of one switch, and twice as many with each further one.
def switches_of(function):
    return len(function).bit_length() - 1


def where_both(one, other):
    return tuple([first & second for first, second in zip(one, other)])


def where_either(one, other):
    return tuple([first | second for first, second in zip(one, other)])


def turned_contact(contact, some):
    if contact[2] in some:
        return contact[:3] + (1 - contact[3],)
    return contact


def turned(net, some):
    return (net[0], net[1], tuple([turned_contact(contact, some) for contact in net[2]]))


def named_contact(contact, order):
    return (contact[0], contact[1], order[contact[2]], contact[3])


def named(net, order):
    return (net[0], net[1], tuple([named_contact(contact, order) for contact in net[2]]))
