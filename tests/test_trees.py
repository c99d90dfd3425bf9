import copy
import inspect
import itertools
import unittest

from contactnets import trees
from contactnets.nets import is_net
from contactnets.trees import against, contacts_of, inside_out, is_tree, made_flat, net_of, tree_function, tree_of
from tests.helper import ALIKE, APART, CHAIN, EMPTY, LADDER, LARGE_NETS, LOOSE_ENDS, NETS, ODD_THINGS
from tests.helper import fixed_row, made_nets, only_of, otherwise, plain_function, plain_settings, refused

ON = ("at", 0, 1)
OFF = ("at", 0, 0)
LAMP = ("side", (("row", (("at", 0, 1), ("at", 1, 0))), ("row", (("at", 0, 0), ("at", 1, 1)))))


def plain_at(tree, setting):
    if tree[0] == "at":
        return setting[tree[1]] == tree[2]
    return {"row": all, "side": any}[tree[0]](plain_at(part, setting) for part in tree[1])


def plain_tree_function(switches, tree):
    return tuple(int(plain_at(tree, setting)) for setting in plain_settings(switches))


def lone_contacts(tree):
    if tree[0] == "at":
        return [tree[1:]]
    return [contact for part in tree[1] for contact in lone_contacts(part)]


def joints(tree):
    """Each row and side in a tree, with the kinds of its parts."""
    if tree[0] == "at":
        return []
    return [(tree[0], [part[0] for part in tree[1]])] + [joint for part in tree[1] for joint in joints(part)]


def made_tree(below, switches, count):
    if count == 1:
        return ("at", below(switches), below(2))
    parts = []
    while count > 0:
        size = 1 + below(min(count, 5))
        if not parts and size == count:
            size = count - 1
        parts.append(made_tree(below, switches, size))
        count -= size
    return (("row", "side")[below(2)], tuple(parts))


def made_trees(count):
    below = fixed_row()
    told = []
    for number in range(count):
        switches = 1 + number % 4
        told.append((switches, made_tree(below, switches, 1 + number % 16)))
    return told


def comb(kind, count):
    """A tree as deep as it may be with so many contacts, row and side in turns."""
    tree = ON
    for _ in range(count - 1):
        tree = (kind, (tree, OFF))
        kind = "side" if kind == "row" else "row"
    return tree


TREES = made_trees(160) + [(2, LAMP), (1, ON), (1, OFF), (1, comb("row", 16)), (1, comb("side", 16))]
TREES += [(1, ("row", (ON,) * 16)), (1, ("side", (OFF,) * 16)), (4, ("side", (("at", 3, 1), ("at", 2, 0))))]


class Interface(unittest.TestCase):
    def test_arguments(self):
        wanted = {"is_tree": ["switches", "thing"], "contacts_of": ["tree"], "tree_function": ["switches", "tree"],
                  "net_of": ["switches", "tree"], "inside_out": ["tree"], "against": ["tree"], "made_flat": ["tree"],
                  "tree_of": ["net"]}
        for name, arguments in wanted.items():
            self.assertEqual(list(inspect.signature(getattr(trees, name)).parameters), arguments, name)


def reads_as_tree(thing):
    """Whether it is a tree of two switches by a plain reading of the words, with no thought of how many contacts."""
    if type(thing) is not tuple or not thing or type(thing[0]) is not str:
        return False
    if thing[0] == "at":
        return len(thing) == 3 and type(thing[1]) is type(thing[2]) is int and {thing[1], thing[2]} <= {0, 1}
    if thing[0] not in ("row", "side") or len(thing) != 2 or type(thing[1]) is not tuple or len(thing[1]) < 2:
        return False
    return all(reads_as_tree(part) for part in thing[1])


class IsTree(unittest.TestCase):
    def yes(self, switches, thing):
        self.assertIs(is_tree(switches, thing), True, thing)

    def no(self, switches, thing):
        self.assertIs(is_tree(switches, thing), False, thing)

    def test_trees(self):
        for switches, tree in TREES:
            for more in range(switches, 5):
                self.yes(more, tree)

    def test_a_switch_beyond(self):
        for switches in range(1, 5):
            for switch in range(-1, 6):
                for tree in (("at", switch, 1), ("row", (ON, ("at", switch, 0))), ("side", (("at", switch, 0), ON))):
                    self.assertIs(is_tree(switches, tree), 0 <= switch < switches)
        self.no(4, ("at", 10 ** 29, 1))

    def test_lone_contacts_that_are_none(self):
        for part in (True, False, None, "0", "1", "", (0,), [0], {}, 2, -1, 10 ** 29):
            self.no(2, ("at", 0, part))
            if part != 2:
                self.no(2, ("at", part, 0))
        for thing in (("at",), ("at", 0), ("at", 0, 1, 1), ("at", (0, 1)), ["at", 0, 1], ("AT", 0, 1), ("row", 0, 1),
                      (0, 1), ("at", "0", "1"), ("side", 0, 1), ("", 0, 1), (None, 0, 1), {"at": 0}, "at"):
            self.no(2, thing)
            self.no(2, ("row", (ON, thing)))
            self.no(2, ("side", (thing, ON)))

    def test_one_tree_alone_or_none(self):
        for kind in ("row", "side"):
            self.no(1, (kind, ()))
            self.no(1, (kind, (ON,)))
            self.yes(1, (kind, (ON, OFF)))
            self.yes(1, (kind, (ON, ON)))
            self.no(1, ("row", (ON, (kind, (ON,)))))
            self.no(1, ("side", (ON, (kind, ()))))

    def test_other_words_and_counts(self):
        for kind in ("at", "ROW", "rows", "sides", "", "and", None, 0, True, ("row",), ["side"], {}):
            self.no(1, (kind, (ON, OFF)))
        for thing in (("row", ON, OFF), ("row",), ("row", (ON, OFF), ()), ("side", (ON, OFF), (ON, OFF)), (ON, OFF),
                      ((ON, OFF), "row"), ("row", ON), ("side", "at"), ("side", None), ("row", {0: ON, 1: OFF})):
            self.no(1, thing)

    def test_lists_in_the_place_of_tuples(self):
        for thing in (["row", (ON, OFF)], ("row", [ON, OFF]), ("row", (list(ON), OFF)), ["side", [ON, OFF]],
                      ("side", (ON, ["row", (ON, OFF)])), ("side", (ON, ("row", [ON, OFF])))):
            before = copy.deepcopy(thing)
            self.no(1, thing)
            self.assertEqual(thing, before)

    def test_sixteen_and_seventeen_contacts(self):
        for kind in ("row", "side"):
            other = "side" if kind == "row" else "row"
            self.yes(1, (kind, (ON,) * 16))
            self.no(1, (kind, (ON,) * 17))
            self.yes(1, comb(kind, 16))
            self.no(1, comb(kind, 17))
            self.yes(1, (kind, ((other, (ON,) * 8), (other, (OFF,) * 8))))
            self.no(1, (kind, ((other, (ON,) * 8), (other, (OFF,) * 9))))
            self.no(1, (kind, ((other, (ON,) * 9), (other, (OFF,) * 8))))
            self.no(1, (kind, (ON,) * 300))

    def test_deep_things(self):
        for depth in (25, 29):
            self.no(1, comb("row", depth))
            thing = ON
            for _ in range(depth):
                thing = ("row", (thing,))
            self.no(1, thing)
            thing = ON
            for _ in range(depth):
                thing = ("side", (thing, thing))
            self.no(1, thing)

    def test_one_thing_otherwise(self):
        for tree in (LAMP, ON, ("row", (ON, OFF))):
            for thing in otherwise(tree):
                self.assertIs(is_tree(2, thing), reads_as_tree(thing), thing)

    def test_odd_things(self):
        for thing in ODD_THINGS + ["at", "row", (), ("at",), LADDER, EMPTY]:
            before = copy.deepcopy(thing)
            self.no(1, thing)
            self.no(4, thing)
            self.assertEqual(thing, before)


class CountAndFunction(unittest.TestCase):
    def test_as_written(self):
        self.assertEqual(contacts_of(ON), 1)
        self.assertEqual(contacts_of(LAMP), 4)
        self.assertEqual(tree_function(1, ON), (0, 1))
        self.assertEqual(tree_function(1, OFF), (1, 0))
        self.assertEqual(tree_function(2, LAMP), (0, 1, 1, 0))
        self.assertEqual(tree_function(2, ON), (0, 0, 1, 1))
        self.assertEqual(tree_function(2, ("row", (("at", 1, 1), ON, ("at", 1, 1)))), (0, 0, 0, 1))
        self.assertEqual(tree_function(2, ("side", (("at", 1, 1), ON, ("at", 1, 1)))), (0, 1, 1, 1))
        self.assertEqual(tree_function(1, ("row", (ON, OFF))), (0, 0))
        self.assertEqual(tree_function(1, ("side", (ON, OFF))), (1, 1))
        self.assertEqual(tree_function(4, ("at", 3, 1)), (0, 1) * 8)

    def test_of_all_trees(self):
        for switches, tree in TREES:
            self.assertEqual(contacts_of(tree), len(lone_contacts(tree)))
            for more in range(switches, 5):
                told = tree_function(more, tree)
                self.assertEqual(told, plain_tree_function(more, tree))
                self.assertTrue(only_of(told, tuple, int))


def plain_places(tree):
    """A row has a place more between each two of its trees; inner places add up."""
    if tree[0] == "at":
        return 2
    inner = sum(plain_places(part) - 2 for part in tree[1])
    return 2 + inner + (len(tree[1]) - 1 if tree[0] == "row" else 0)


class NetOf(unittest.TestCase):
    def test_as_written(self):
        self.assertEqual(net_of(1, ON), (1, 2, ((0, 1, 0, 1),)))
        self.assertEqual(net_of(3, ("at", 2, 0)), (3, 2, ((0, 1, 2, 0),)))
        self.assertEqual(net_of(2, LAMP), (2, 4, ((0, 2, 0, 1), (1, 2, 1, 0), (0, 3, 0, 0), (1, 3, 1, 1))))
        self.assertEqual(net_of(3, ("side", (ON, ("at", 1, 0), ("at", 2, 1)))),
                         (3, 2, ((0, 1, 0, 1), (0, 1, 1, 0), (0, 1, 2, 1))))

    def test_rows_are_put_together_from_the_first_on(self):
        self.assertEqual(net_of(4, ("row", (("at", 0, 1), ("at", 1, 1), ("at", 2, 1), ("at", 3, 1)))),
                         (4, 5, ((0, 2, 0, 1), (2, 3, 1, 1), (3, 4, 2, 1), (1, 4, 3, 1))))
        self.assertEqual(net_of(1, ("row", (OFF, ("side", (ON, ("row", (OFF, ON)))), ON))),
                         (1, 5, ((0, 3, 0, 0), (3, 4, 0, 1), (2, 3, 0, 0), (2, 4, 0, 1), (1, 4, 0, 1))))

    def test_of_all_trees(self):
        beyond = 0
        for switches, tree in TREES:
            if plain_places(tree) > 7:
                refused(self, "TooMany", net_of, switches, tree)
                beyond += 1
                continue
            told = net_of(switches, tree)
            self.assertIs(is_net(told), True)
            self.assertTrue(only_of(told, tuple, int))
            self.assertEqual(told[:2], (switches, plain_places(tree)))
            self.assertEqual([contact[2:] for contact in told[2]], lone_contacts(tree))
            self.assertEqual(plain_function(told), plain_tree_function(switches, tree))
        self.assertTrue(20 < beyond < len(TREES) - 20)

    def test_seven_and_eight_places(self):
        six = ("row", (ON,) * 6)
        seven = ("row", (ON,) * 7)
        self.assertEqual(net_of(1, six)[1], 7)
        refused(self, "TooMany", net_of, 1, seven)
        for tree in (("side", (ON, seven)), ("row", (OFF, six)), ("side", (("row", (ON,) * 4), ("row", (ON,) * 4)))):
            refused(self, "TooMany", net_of, 1, tree)
        for tree in (("side", (ON, six)), ("side", (("row", (ON,) * 4), ("row", (ON,) * 3))),
                     ("row", (("side", (ON,) * 4), ("row", (OFF,) * 5)))):
            self.assertEqual(net_of(1, tree)[1], 7)
        self.assertEqual(net_of(1, ("side", (ON,) * 16)), (1, 2, ((0, 1, 0, 1),) * 16))


class InsideOutAndAgainst(unittest.TestCase):
    def test_as_written(self):
        self.assertEqual(inside_out(ON), ON)
        self.assertEqual(against(ON), OFF)
        self.assertEqual(inside_out(LAMP), ("row", (("side", (("at", 0, 1), ("at", 1, 0))),
                                                    ("side", (("at", 0, 0), ("at", 1, 1))))))
        self.assertEqual(against(LAMP), ("row", (("side", (("at", 0, 0), ("at", 1, 1))),
                                                 ("side", (("at", 0, 1), ("at", 1, 0))))))
        self.assertEqual(inside_out(("row", (("row", (ON, OFF)), ON))), ("side", (("side", (ON, OFF)), ON)))

    def test_of_all_trees(self):
        for switches, tree in TREES:
            for asked, contacts in ((inside_out, lone_contacts(tree)),
                                    (against, [(switch, 1 - on) for switch, on in lone_contacts(tree)])):
                told = asked(tree)
                self.assertIs(is_tree(switches, told), True)
                self.assertEqual(lone_contacts(told), contacts)
                self.assertEqual([kind for kind, _ in joints(told)],
                                 [{"row": "side", "side": "row"}[kind] for kind, _ in joints(tree)])
                self.assertEqual(asked(told), tree)

    def test_functions(self):
        for switches, tree in TREES:
            bits = plain_tree_function(switches, tree)
            other = tuple(1 - bit for bit in bits)
            self.assertEqual(plain_tree_function(switches, against(tree)), other)
            self.assertEqual(plain_tree_function(switches, inside_out(tree)), other[::-1])


class MadeFlat(unittest.TestCase):
    def test_as_written(self):
        self.assertEqual(made_flat(ON), ON)
        self.assertEqual(made_flat(LAMP), LAMP)
        deep = ("row", (ON, ("row", (OFF, ("row", (ON, ON)))), ("side", (OFF, ("side", (ON, OFF))))))
        self.assertEqual(made_flat(deep), ("row", (ON, OFF, ON, ON, ("side", (OFF, ON, OFF)))))
        self.assertEqual(made_flat(("side", (("side", (ON, OFF)), ("side", (OFF, ON))))), ("side", (ON, OFF, OFF, ON)))
        self.assertEqual(made_flat(("row", (("side", (("row", (ON, OFF)), ("side", (OFF, OFF)))), ON))),
                         ("row", (("side", (("row", (ON, OFF)), OFF, OFF)), ON)))

    def test_of_all_trees(self):
        for switches, tree in TREES:
            told = made_flat(tree)
            self.assertIs(is_tree(switches, told), True)
            self.assertTrue(all(kind not in parts for kind, parts in joints(told)))
            self.assertEqual(lone_contacts(told), lone_contacts(tree))
            self.assertEqual(plain_tree_function(switches, told), plain_tree_function(switches, tree))
            self.assertEqual(made_flat(told), told)
            if all(kind not in parts for kind, parts in joints(tree)):
                self.assertEqual(told, tree)


def plain_leads(net, below):
    """Whether a net leads to one contact, by steps that are chosen by a row of numbers."""
    pairs = [contact[:2] for contact in net[2]]
    while True:
        steps = []
        for one, other in itertools.combinations(range(len(pairs)), 2):
            rest = [pair for number, pair in enumerate(pairs) if number not in (one, other)]
            if pairs[one] == pairs[other]:
                steps.append(rest + [pairs[one]])
                continue
            for place in set(pairs[one]) & set(pairs[other]) - {0, 1}:
                if not any(place in pair for pair in rest):
                    steps.append(rest + [tuple(sorted(set(pairs[one]) ^ set(pairs[other])))])
        if not steps:
            return pairs == [(0, 1)]
        pairs = steps[below(len(steps))]


def otherwise_drawn(net, below):
    """The net with its inner places named anew and its contacts in another order."""
    places = list(range(2, net[1]))
    new = [0, 1] + [places.pop(below(len(places))) for _ in range(2, net[1])]
    contacts = [(min(new[a], new[b]), max(new[a], new[b]), switch, on) for a, b, switch, on in net[2]]
    return (net[0], net[1], tuple(contacts.pop(below(len(contacts))) for _ in net[2]))


class TreeOf(unittest.TestCase):
    def is_tree_of(self, net):
        told = tree_of(net)
        self.assertIs(is_tree(net[0], told), True, net)
        self.assertTrue(only_of(told, tuple, str, int))
        self.assertEqual(sorted(lone_contacts(told)), sorted(contact[2:] for contact in net[2]))
        self.assertEqual(plain_tree_function(net[0], told), plain_function(net))

    def test_one_contact(self):
        self.assertEqual(tree_of((1, 2, ((0, 1, 0, 1),))), ON)
        self.assertEqual(tree_of((3, 7, ((0, 1, 2, 0),))), ("at", 2, 0))

    def test_rows_and_sides(self):
        for net in (ALIKE, CHAIN, LARGE_NETS[0], (1, 2, ((0, 1, 0, 1),) * 16),
                    (2, 5, ((0, 4, 0, 1), (1, 4, 1, 1), (0, 1, 0, 0))),
                    (2, 3, ((0, 2, 0, 1), (1, 2, 1, 0), (0, 1, 0, 0), (0, 1, 1, 1)))):
            self.is_tree_of(net)

    def test_two_contacts_at_a_place_with_one_other_place(self):
        self.is_tree_of((2, 4, ((2, 3, 0, 1), (2, 3, 1, 0), (0, 2, 0, 0), (1, 3, 1, 1))))
        self.assertIsNone(tree_of((2, 3, ((0, 2, 0, 1), (0, 2, 1, 1), (0, 1, 0, 0)))))
        self.assertIsNone(tree_of((2, 4, ((2, 3, 0, 1), (2, 3, 1, 0), (0, 1, 0, 0)))))

    def test_what_leads_to_no_lone_contact(self):
        for net in (EMPTY, (4, 7, ()), LADDER, APART, LOOSE_ENDS, (1, 3, ((0, 2, 0, 1),)), (1, 3, ((1, 2, 0, 1),)),
                    (1, 4, ((2, 3, 0, 1),)), (1, 3, ((0, 1, 0, 1), (0, 2, 0, 1))),
                    (1, 4, ((0, 1, 0, 1), (2, 3, 0, 1))), (1, 4, ((0, 2, 0, 1), (1, 2, 0, 1), (2, 3, 0, 0))),
                    (1, 5, ((0, 1, 0, 1), (2, 3, 0, 1), (3, 4, 0, 1), (2, 4, 0, 1)))):
            self.assertIsNone(tree_of(net), net)

    def test_nets_of_trees_drawn_otherwise(self):
        below = fixed_row()
        asked = 0
        for switches, tree in TREES:
            if plain_places(tree) <= 7:
                net = net_of(switches, tree)
                self.is_tree_of(net)
                for _ in range(3):
                    self.is_tree_of(otherwise_drawn(net, below))
                asked += 1
        self.assertTrue(asked > 50)

    def test_a_dangling_contact_at_nets_of_trees(self):
        for switches, tree in TREES:
            if plain_places(tree) <= 6:
                net = net_of(switches, tree)
                for place in range(net[1]):
                    self.assertIsNone(tree_of((switches, net[1] + 1, net[2] + ((place, net[1], 0, 1),))))

    def test_whatever_step_is_done_first(self):
        below = fixed_row()
        leads = 0
        for net in NETS + LARGE_NETS + made_nets(400, 4, 7):
            found = {plain_leads(net, below) for _ in range(5)}
            self.assertEqual(len(found), 1)
            if found == {True}:
                self.is_tree_of(net)
                leads += 1
            else:
                self.assertIsNone(tree_of(net), net)
        self.assertTrue(leads > 20, leads)


class Beyond(unittest.TestCase):
    def test_somewhat_beyond_is_not_refused(self):
        tree = ("side", (("at", 4, 1), ("row", (ON,) * 17)))
        self.assertEqual(contacts_of(tree), 18)
        self.assertEqual(tree_function(5, tree), plain_tree_function(5, tree))
        self.assertEqual(against(against(tree)), tree)
        self.assertEqual(inside_out(inside_out(tree)), tree)
        self.assertEqual(made_flat(tree), tree)
        self.assertEqual(contacts_of(tree_of((5, 9, ((0, 8, 4, 1),) * 10 + ((1, 8, 0, 1),) * 10))), 20)


if __name__ == "__main__":
    unittest.main()
