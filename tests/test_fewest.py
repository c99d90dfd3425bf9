import copy
import inspect
import itertools
import unittest

from contactnets import fewest as module
from contactnets.fewest import fewest, fewest_many, fewest_tree, is_paper, paper_of
from contactnets.trees import contacts_of, is_tree, tree_function
from tests.helper import ODD_THINGS, only_of, otherwise, plain_settings, refused

XOR = (0, 1, 1, 0)
ODD_OF_THREE = (0, 1, 1, 0, 1, 0, 0, 1)
TWO_OF_THREE = (0, 0, 0, 1, 0, 1, 1, 1)
ODD_OF_FOUR = tuple(sum(setting) % 2 for setting in plain_settings(4))


def functions(switches):
    return list(itertools.product((0, 1), repeat=2 ** switches))


def singles(switches):
    return {tuple(int(setting[switch] == on) for setting in plain_settings(switches))
            for switch in range(switches) for on in (0, 1)}


def put_together(one, other):
    return {tuple(map(min, one, other)), tuple(map(max, one, other))}


def plain_lists(switches, count, more=()):
    """The functions of all trees of just 1, 2 .. contacts: sets, the first one with some more functions."""
    lists = [singles(switches) | set(more)]
    while len(lists) < count:
        found = set()
        for less in range(len(lists)):
            for one, other in itertools.product(lists[less], lists[len(lists) - 1 - less]):
                found |= put_together(one, other)
        lists.append(found)
    return lists


def as_paper(lists):
    return tuple(sorted(some) for some in lists)


def plain_fewest(switches, most):
    told = {}
    for number, some in enumerate(plain_lists(switches, most), start=1):
        for function in some:
            told.setdefault(function, number)
    return told


def all_trees(switches, contacts):
    """Each tree of just so many contacts whose rows and sides have two trees."""
    if contacts == 1:
        return [("at", switch, on) for switch in range(switches) for on in (0, 1)]
    return [(kind, (one, other)) for kind in ("row", "side") for less in range(1, contacts)
            for one in all_trees(switches, less) for other in all_trees(switches, contacts - less)]


FEWEST = {1: plain_fewest(1, 3), 2: plain_fewest(2, 5), 3: plain_fewest(3, 11)}
SOME_OF_THREE = [function for number, function in enumerate(functions(3)) if number % 9 == 0]
SOME_OF_THREE += [ODD_OF_THREE, TWO_OF_THREE, (0,) * 8, (1,) * 8, (1, 0) * 4, (0, 0, 0, 0, 1, 1, 1, 1)]
ASKED = functions(1) + functions(2) + SOME_OF_THREE


def switches_in(function):
    return {2: 1, 4: 2, 8: 3, 16: 4}[len(function)]


class Interface(unittest.TestCase):
    def test_arguments(self):
        wanted = {"fewest": ["function"], "fewest_tree": ["function"], "is_paper": ["function", "thing"],
                  "paper_of": ["function"], "fewest_many": ["switches"]}
        for name, arguments in wanted.items():
            self.assertEqual(list(inspect.signature(getattr(module, name)).parameters), arguments, name)


class Fewest(unittest.TestCase):
    def test_as_written(self):
        self.assertEqual([fewest(function) for function in functions(1)], [2, 1, 1, 2])
        self.assertEqual(fewest((0, 0, 0, 1)), 2)
        self.assertEqual(fewest(XOR), 4)
        self.assertEqual(fewest(TWO_OF_THREE), 5)
        self.assertEqual(fewest(ODD_OF_THREE), 10)
        self.assertEqual(fewest((0,) * 8), 2)
        self.assertEqual(fewest((0, 0, 0, 0, 1, 1, 1, 1)), 1)

    def test_of_all_functions(self):
        for switches in (1, 2, 3):
            for function in functions(switches):
                told = fewest(function)
                self.assertIs(type(told), int)
                self.assertEqual(told, FEWEST[switches][function])

    def test_against_all_small_trees(self):
        for switches, most in ((1, 4), (2, 4), (3, 3)):
            found = {}
            for contacts in range(1, most + 1):
                for tree in all_trees(switches, contacts):
                    found.setdefault(tree_function(switches, tree), contacts)
            for function in functions(switches):
                if function in found:
                    self.assertEqual(fewest(function), found[function])
                else:
                    self.assertGreater(fewest(function), most)

    def test_trees(self):
        for function in ASKED + functions(3):
            switches = switches_in(function)
            told = fewest_tree(function)
            self.assertIs(is_tree(switches, told), True)
            self.assertTrue(only_of(told, tuple, str, int))
            self.assertEqual(tree_function(switches, told), function)
            self.assertEqual(contacts_of(told), FEWEST[switches][function])

    def test_asked_again(self):
        for function in ASKED:
            self.assertEqual(fewest_tree(function), fewest_tree(function))
            self.assertEqual(fewest(function), fewest(function))

    def test_too_many_switches(self):
        for function in (ODD_OF_FOUR, (0,) * 16, (1,) * 16, (0, 1) * 8, (0,) * 8 + (1,) * 8):
            for asked in (fewest, fewest_tree, paper_of):
                refused(self, "TooMany", asked, function)


class Papers(unittest.TestCase):
    def yes(self, function, thing):
        self.assertIs(is_paper(function, thing), True)

    def no(self, function, thing):
        self.assertIs(is_paper(function, thing), False, thing)

    def test_as_written(self):
        self.assertEqual(paper_of((0, 1)), ())
        self.assertEqual(paper_of((0, 0)), ([(0, 1), (1, 0)],))
        single = [(0, 0, 1, 1), (0, 1, 0, 1), (1, 0, 1, 0), (1, 1, 0, 0)]
        self.assertEqual(paper_of((0, 0, 0, 1)), (single,))
        self.yes(XOR, (single,))
        self.no((0, 0, 1, 1), (single,))

    def test_no_lists(self):
        for function in ASKED + [ODD_OF_FOUR, (0, 1) * 8]:
            self.yes(function, ())
            self.no(function, [])
        for switches in (1, 2, 3):
            for function in singles(switches):
                self.assertEqual(paper_of(function), ())

    def test_papers_told(self):
        for function in ASKED:
            told = paper_of(function)
            self.assertIs(type(told), tuple)
            self.assertEqual(len(told), FEWEST[switches_in(function)][function] - 1)
            self.assertTrue(all(type(some) is list and only_of(tuple(some), tuple, int) for some in told))
            self.assertTrue(all(some == sorted(set(some)) for some in told))
            self.yes(function, told)
            for count in range(len(told)):
                self.yes(function, told[:count])

    def test_papers_with_all_functions_of_trees_and_no_more(self):
        for function in (XOR, TWO_OF_THREE, ODD_OF_THREE):
            switches = switches_in(function)
            lists = as_paper(plain_lists(switches, FEWEST[switches][function] - 1))
            self.yes(function, lists)
            for number in range(len(lists)):
                for index in (0, len(lists[number]) // 2, -1):
                    short = copy.deepcopy(lists)
                    short[number].pop(index)
                    self.no(function, short)

    def test_a_list_too_many(self):
        for function in functions(1) + functions(2) + [TWO_OF_THREE, ODD_OF_THREE]:
            switches = switches_in(function)
            lists = as_paper(plain_lists(switches, FEWEST[switches][function]))
            self.no(function, lists)
            lists[-1].remove(function)
            self.no(function, lists)
            self.no(function, lists + (lists[-1],))

    def test_of_another_function(self):
        paper = paper_of(XOR)
        for function in functions(2):
            self.assertIs(is_paper(function, paper), function not in paper[-1])
        paper = paper_of(ODD_OF_THREE)[:4]
        for function in functions(3):
            self.assertIs(is_paper(function, paper), function not in paper[-1])

    def test_other_functions_may_be_there(self):
        paper = copy.deepcopy(paper_of(TWO_OF_THREE))
        paper[-1].append((0, 1, 1, 0, 1, 0, 0, 1))
        self.no(TWO_OF_THREE, paper)
        more = paper[:-1] + (sorted(paper[-1]),)
        self.yes(TWO_OF_THREE, more)
        odd = (0, 1, 1, 0, 0, 1, 1, 0)
        lists = plain_lists(3, 3, [odd])
        self.yes(TWO_OF_THREE, as_paper(lists))
        for some in lists[1:]:
            some.remove(odd)
            self.no(TWO_OF_THREE, as_paper(lists))
            some.add(odd)

    def test_the_function_in_any_of_the_lists(self):
        function = ODD_OF_THREE
        paper = paper_of(function)
        for number in range(len(paper)):
            other = copy.deepcopy(paper)
            other[number].append(function)
            self.no(function, paper[:number] + (sorted(other[number]),) + paper[number + 1:])
            self.no(function, paper[:number] + (sorted(other[number]),))

    def test_each_of_the_two_kinds_is_asked_for(self):
        single = sorted(singles(2))
        both = sorted({tuple(map(min, one, other)) for one, other in itertools.product(single, repeat=2)})
        either = sorted({tuple(map(max, one, other)) for one, other in itertools.product(single, repeat=2)})
        self.yes(XOR, (single, sorted(set(both + either))))
        self.no(XOR, (single, both))
        self.no(XOR, (single, either))

    def test_one_list_taken_twice(self):
        lists = plain_lists(3, 4)
        paper = as_paper(lists)
        short = plain_lists(3, 3)
        found = set()
        for one, other in itertools.product(short[0], short[2]):
            found |= put_together(one, other)
        self.assertLess(len(found), len(lists[3]))
        self.yes(ODD_OF_THREE, paper)
        self.no(ODD_OF_THREE, paper[:3] + (sorted(found),))

    def test_lists_that_rise_not(self):
        for function in (XOR, TWO_OF_THREE):
            paper = paper_of(function)
            for number, some in enumerate(paper):
                for other in (some[::-1], some[1:] + some[:1], some[:1] + some, some + some[-1:]):
                    self.no(function, paper[:number] + (other,) + paper[number + 1:])

    def test_one_thing_otherwise(self):
        for function in ((0, 0), XOR):
            paper = paper_of(function)
            for thing in otherwise(paper):
                fewer = type(thing) is tuple and any(thing == paper[:count] for count in range(len(paper)))
                self.assertIs(is_paper(function, thing), fewer, thing)

    def test_functions_of_other_many_switches(self):
        self.no(XOR, paper_of((0, 0)))
        self.no((0, 0), paper_of(XOR))
        self.no(TWO_OF_THREE, paper_of(XOR))
        self.no(XOR, paper_of(TWO_OF_THREE))

    def test_four_switches(self):
        lists = plain_lists(4, 3)
        paper = as_paper(lists)
        self.yes(ODD_OF_FOUR, paper)
        self.no(paper[2][5], paper)
        for number in range(3):
            short = copy.deepcopy(paper)
            short[number].pop()
            self.no(ODD_OF_FOUR, short)

    def test_odd_things(self):
        for thing in ODD_THINGS + [((),), ([],), ([], []), ([()],), ([[]],), ("",), ([None],), ([0, 1],), [[(0, 1)]]]:
            for function in ((0, 0), (0, 1), XOR, ODD_OF_THREE, ODD_OF_FOUR):
                before = copy.deepcopy(thing)
                self.no(function, thing)
                self.assertEqual(thing, before)

    def test_large_things(self):
        for switches in (1, 2, 3, 4):
            every = functions(switches)[:2000]
            things = ((every,) * 4, (sorted(singles(switches)),) * 500, (every,), (list(range(30000)),))
            for thing in things:
                self.no((0,) * 2 ** switches, thing)


class FewestMany(unittest.TestCase):
    def test_as_written(self):
        self.assertEqual(fewest_many(1), [2, 2])
        self.assertEqual(fewest_many(2), [4, 10, 0, 2])
        self.assertEqual(fewest_many(3), [6, 26, 64, 30, 80, 32, 0, 16, 0, 2])

    def test_counted(self):
        for switches in (1, 2, 3):
            told = fewest_many(switches)
            found = list(FEWEST[switches].values())
            self.assertEqual(told, [found.count(number) for number in range(1, max(found) + 1)])
            self.assertEqual(sum(told), len(functions(switches)))
            self.assertTrue(only_of(told, list, int))

    def test_bits_exchanged_turned_and_named_anew(self):
        for function in functions(3):
            bits = dict(zip(plain_settings(3), function))
            number = fewest(function)
            self.assertEqual(fewest(tuple(1 - bit for bit in function)), number)
            turned = tuple(bits[(1 - a, b, 1 - c)] for a, b, c in plain_settings(3))
            self.assertEqual(fewest(turned), number)
            named = tuple(bits[(b, c, a)] for a, b, c in plain_settings(3))
            self.assertEqual(fewest(named), number)


class TheAskersOwn(unittest.TestCase):
    def test_lists_changed_and_asked_again(self):
        for function in (XOR, TWO_OF_THREE, ODD_OF_THREE):
            told = paper_of(function)
            before = copy.deepcopy(told)
            self.assertEqual(len({id(some) for some in told}), len(told))
            for some in told:
                some.clear()
            self.assertEqual(paper_of(function), before)
        for switches in (1, 2, 3):
            told = fewest_many(switches)
            before = list(told)
            told.append(7)
            self.assertEqual(fewest_many(switches), before)

    def test_what_is_handed_in_stays_and_is_not_kept(self):
        paper = paper_of(TWO_OF_THREE)
        before = copy.deepcopy(paper)
        self.assertIs(is_paper(TWO_OF_THREE, paper), True)
        self.assertEqual(paper, before)
        paper[0].pop()
        self.assertIs(is_paper(TWO_OF_THREE, paper), False)
        self.assertIs(is_paper(TWO_OF_THREE, before), True)


if __name__ == "__main__":
    unittest.main()
