"""Tables of functions between places, and places taken out of them."""

from contactnets.errors import NoPlace, NoTable
from contactnets.nets import function_of, is_function, is_whole, settings, switches_of, where_both, where_either


def is_row(switches, places, thing):
    if not isinstance(thing, tuple) or len(thing) != places:
        return False
    return all([is_function(switches, part) for part in thing])


def same_both_ways(rows):
    for one in range(len(rows)):
        for other in range(one):
            if rows[one][other] != rows[other][one]:
                return False
    return True


def is_table(switches, thing):
    if not isinstance(thing, tuple) or not 2 <= len(thing) <= 7:
        return False
    if not all([is_row(switches, len(thing), row) for row in thing]):
        return False
    return all([all(row[place]) for place, row in enumerate(thing)]) and same_both_ways(thing)


# The contacts between two places are a net by themselves, all of them side by side.
def tied(net, one, other):
    if one == other:
        return (1,) * len(settings(net[0]))
    ends = (min(one, other), max(one, other))
    contacts = [(0, 1) + contact[2:] for contact in net[2] if contact[:2] == ends]
    return function_of((net[0], 2, tuple(contacts)))


def tied_row(net, one):
    return tuple([tied(net, one, other) for other in range(net[1])])


def table_of(net):
    return tuple([tied_row(net, place) for place in range(net[1])])


def row_without(table, one, place):
    told = []
    for other in range(len(table)):
        if other != place:
            round_about = where_both(table[one][place], table[place][other])
            told.append(where_either(table[one][other], round_about))
    return tuple(told)


def taken_out(table, place):
    if not is_whole(place) or not 2 <= place < len(table):
        raise NoPlace("this is no place from 2 on of the table")
    return tuple([row_without(table, one, place) for one in range(len(table)) if one != place])


def follows(ahead, table):
    return any([taken_out(ahead, place) == table for place in range(2, len(ahead))])


# Equal is not enough: in Python True is equal to 1, and a table has no True.
def is_taking(table, thing):
    if not isinstance(thing, tuple) or not thing:
        return False
    switches = switches_of(table[0][0])
    if not all([is_table(switches, part) for part in thing]):
        return False
    if thing[0] != table or len(thing[-1]) != 2:
        return False
    return all([follows(ahead, part) for ahead, part in zip(thing, thing[1:])])


def left_at_last(table):
    left = table
    while len(left) > 2:
        left = taken_out(left, 2)
    return left[0][1]


# A table is the same both ways, so its row is what leads from any place to the row's own.
def through_some_place(one_row, other_row):
    told = (0,) * len(one_row[0])
    for one, other in zip(one_row, other_row):
        told = where_either(told, where_both(one, other))
    return told


def row_through(one_row, other):
    return tuple([through_some_place(one_row, other_row) for other_row in other])


def come_to(one, other):
    told = tuple([row_through(one_row, other) for one_row in one])
    if not same_both_ways(told):
        raise NoTable("what the two come to is not the same both ways")
    return told


def closed(table):
    told = table
    further = come_to(told, told)
    while further != told:
        told = further
        further = come_to(told, told)
    return told
