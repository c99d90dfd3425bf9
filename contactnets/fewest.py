"""The fewest contacts that a tree of a function has, and papers that it has no fewer."""

from contactnets.errors import TooMany
from contactnets.nets import is_function, settings, switches_of
from contactnets.trees import tree_function


# As whole numbers functions are put in a row by one step, and side by side, and keep their order.
def number_of(function):
    number = 0
    for bit in function:
        number = number * 2 + bit
    return number


def function_with(number, size):
    return tuple([number >> (size - 1 - place) & 1 for place in range(size)])


# A level has the functions of just so many contacts, by their numbers, and a tree for each.
def first_level(switches):
    level = {}
    for switch in range(switches):
        for on in (0, 1):
            tree = ("at", switch, on)
            level[number_of(tree_function(switches, tree))] = tree
    return level


def add_made(level, one, other, known):
    for first in one:
        for second in other:
            for kind, made in (("row", first & second), ("side", first | second)):
                if made not in known and made not in level:
                    level[made] = (kind, (one[first], other[second]))


# A tree of fewest contacts falls into two of fewest contacts, so the levels alone are looked at.
def further_level(levels):
    known = {}
    for level in levels:
        known.update(level)
    told = {}
    for less in range((len(levels) + 1) // 2):
        add_made(told, levels[less], levels[len(levels) - 1 - less], known)
    return told


def levels_to(function):
    switches = switches_of(function)
    if switches > 3:
        raise TooMany("there are more than three switches")
    levels = [first_level(switches)]
    while number_of(function) not in levels[-1]:
        levels.append(further_level(levels))
    return levels


def fewest(function):
    return len(levels_to(function))


def fewest_tree(function):
    return levels_to(function)[-1][number_of(function)]


def is_rising_list(switches, thing):
    if not isinstance(thing, list) or not all([is_function(switches, part) for part in thing]):
        return False
    return all([one < other for one, other in zip(thing, thing[1:])])


def has_all_made(some, one, other):
    for first in one:
        for second in other:
            if first & second not in some or first | second not in some:
                return False
    return True


def goes_on(lists, some, switches):
    if not lists:
        return all([number in some for number in first_level(switches)])
    for less in range((len(lists) + 1) // 2):
        if not has_all_made(some, lists[less], lists[len(lists) - 1 - less]):
            return False
    return True


def is_paper(function, thing):
    if not isinstance(thing, tuple):
        return False
    switches = switches_of(function)
    lists = []
    for part in thing:
        if not is_rising_list(switches, part):
            return False
        some = dict([(number_of(other), True) for other in part])
        if number_of(function) in some or not goes_on(lists, some, switches):
            return False
        lists.append(some)
    return True


# A contact may stand twice in a row, so what has fewer contacts is in each further list too.
def paper_of(function):
    known = []
    told = []
    for level in levels_to(function)[:-1]:
        known = sorted(known + list(level))
        told.append([function_with(number, len(function)) for number in known])
    return tuple(told)


def how_many_functions(switches):
    count = 1
    for setting in settings(switches):
        count = count * 2
    return count


def fewest_many(switches):
    levels = [first_level(switches)]
    while sum([len(level) for level in levels]) < how_many_functions(switches):
        levels.append(further_level(levels))
    return [len(level) for level in levels]
