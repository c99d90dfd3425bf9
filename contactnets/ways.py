"""The ways along which a net may let through, and the bars that keep it from it."""

from contactnets.nets import is_whole, joins, shut_at


def is_choice(net, thing):
    if not isinstance(thing, tuple) or not all([is_whole(part) for part in thing]):
        return False
    return list(thing) == [number for number in range(len(net[2])) if number in thing]


def without(some, number):
    return [other for other in some if other != number]


def join_along(net, some):
    return joins([net[2][number] for number in some])


def join_beside(net, some):
    return joins([contact for number, contact in enumerate(net[2]) if number not in some])


def is_way(net, thing):
    if not is_choice(net, thing) or not join_along(net, thing):
        return False
    return not any([join_along(net, without(thing, number)) for number in thing])


def is_bar(net, thing):
    if not is_choice(net, thing) or join_beside(net, thing):
        return False
    return all([join_beside(net, without(thing, number)) for number in thing])


def far_end(contact, place):
    if contact[0] == place:
        return contact[1]
    if contact[1] == place:
        return contact[0]
    return None


# A walk that came to a place twice could leave out the round, so it would be no way.
def ways_on(contacts, been, taken):
    if been[-1] == 1:
        return [tuple(sorted(taken))]
    found = []
    for number, contact in enumerate(contacts):
        far = far_end(contact, been[-1])
        if far is not None and far not in been:
            found.extend(ways_on(contacts, been + (far,), taken + (number,)))
    return found


def all_ways(net):
    return sorted(ways_on(net[2], (0,), ()))


def halves_with_start(places):
    told = [(0,)]
    for place in range(2, places):
        told = told + [half + (place,) for half in told]
    return told


def out_of(net, half):
    return tuple([number for number, contact in enumerate(net[2]) if (contact[0] in half) != (contact[1] in half)])


# Without a bar one comes from 0 to some places, not to 1; the bar is just what leads out of these.
def all_bars(net):
    found = {}
    for half in halves_with_start(net[1]):
        some = out_of(net, half)
        if is_bar(net, some):
            found[some] = True
    return sorted(found)


# All shut or none shut: either wants just one state of each switch that its contacts hang on.
def is_live(net, some):
    wanted = {}
    for number in some:
        contact = net[2][number]
        if wanted.setdefault(contact[2], contact[3]) != contact[3]:
            return False
    return True


def live_ways(net):
    return [way for way in all_ways(net) if is_live(net, way)]


def live_bars(net):
    return [bar for bar in all_bars(net) if is_live(net, bar)]


def way_at(net, setting):
    shut = shut_at(net, setting)
    for way in all_ways(net):
        if all([number in shut for number in way]):
            return way
    return None


def bar_at(net, setting):
    shut = shut_at(net, setting)
    for bar in all_bars(net):
        if not any([number in shut for number in bar]):
            return bar
    return None
