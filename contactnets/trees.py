"""Trees of contacts: rows and sides, their functions and nets, and nets drawn together to trees."""

from contactnets.made import in_row, side_by_side
from contactnets.nets import function_of, is_bit, is_whole, where_both, where_either


def is_lone(switches, thing):
    if not isinstance(thing, tuple) or len(thing) != 3 or thing[0] != "at":
        return False
    return is_whole(thing[1]) and 0 <= thing[1] < switches and is_bit(thing[2])


def has_parts(thing):
    if not isinstance(thing, tuple) or len(thing) != 2 or thing[0] not in ("row", "side"):
        return False
    return isinstance(thing[1], tuple) and len(thing[1]) >= 2


# Whatever waits would have a contact at least, so a thing that is too large is left early.
def is_tree(switches, thing):
    waiting = [thing]
    contacts = 0
    while waiting:
        if contacts + len(waiting) > 16:
            return False
        part = waiting.pop()
        if is_lone(switches, part):
            contacts = contacts + 1
        elif has_parts(part):
            waiting.extend(part[1])
        else:
            return False
    return True


def contacts_of(tree):
    if tree[0] == "at":
        return 1
    return sum([contacts_of(part) for part in tree[1]])


def lone_net(switches, tree):
    return (switches, 2, ((0, 1, tree[1], tree[2]),))


def tree_function(switches, tree):
    if tree[0] == "at":
        return function_of(lone_net(switches, tree))
    told = tree_function(switches, tree[1][0])
    for part in tree[1][1:]:
        bits = tree_function(switches, part)
        told = where_both(told, bits) if tree[0] == "row" else where_either(told, bits)
    return told


def net_of(switches, tree):
    if tree[0] == "at":
        return lone_net(switches, tree)
    told = net_of(switches, tree[1][0])
    for part in tree[1][1:]:
        net = net_of(switches, part)
        told = in_row(told, net) if tree[0] == "row" else side_by_side(told, net)
    return told


def inside_out(tree):
    if tree[0] == "at":
        return tree
    kind = "side" if tree[0] == "row" else "row"
    return (kind, tuple([inside_out(part) for part in tree[1]]))


def other_ons(tree):
    if tree[0] == "at":
        return ("at", tree[1], 1 - tree[2])
    return (tree[0], tuple([other_ons(part) for part in tree[1]]))


def against(tree):
    return other_ons(inside_out(tree))


def made_flat(tree):
    if tree[0] == "at":
        return tree
    parts = []
    for part in tree[1]:
        flat = made_flat(part)
        if flat[0] == tree[0]:
            parts.extend(flat[1])
        else:
            parts.append(flat)
    return (tree[0], tuple(parts))


# A bond is what one contact has become: its two places and the tree of what it was drawn together from.
def bonds_of(net):
    return [(contact[0], contact[1], ("at", contact[2], contact[3])) for contact in net[2]]


def may_vanish(place, bonds):
    return place >= 2 and len([bond for bond in bonds if place in bond[:2]]) == 2


def drawn_pair(one, other, bonds):
    if one[:2] == other[:2]:
        return one[:2] + (("side", (one[2], other[2])),)
    for place in one[:2]:
        if place in other[:2] and may_vanish(place, bonds):
            far = sorted([end for end in one[:2] + other[:2] if end != place])
            return (far[0], far[1], ("row", (one[2], other[2])))
    return None


def drawn_once(bonds):
    for number, other in enumerate(bonds):
        for earlier in range(number):
            bond = drawn_pair(bonds[earlier], other, bonds)
            if bond is not None:
                return bonds[:earlier] + [bond] + bonds[earlier + 1:number] + bonds[number + 1:]
    return None


def tree_of(net):
    bonds = bonds_of(net)
    fewer = drawn_once(bonds)
    while fewer is not None:
        bonds = fewer
        fewer = drawn_once(bonds)
    if len(bonds) == 1 and bonds[0][:2] == (0, 1):
        return bonds[0][2]
    return None
