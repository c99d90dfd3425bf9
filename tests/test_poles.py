import inspect
import itertools
import unittest

from contactnets import poles
from contactnets.poles import always_joined, between, never_joined, pieces_at, rings_at, turn_counts, used
from tests.helper import ALIKE, APART, CHAIN, EMPTY, LADDER, LARGE_NETS, LOOSE_ENDS, NETS, NO_NUMBERS, SPLIT
from tests.helper import made_nets, only_of, plain_function, plain_marks, plain_pieces, plain_settings, plain_shut
from tests.helper import refused, thick

ASKED = NETS + LARGE_NETS + made_nets(60, 5, 16)
EACH_SETTING = [(net, setting) for net in ASKED for setting in plain_settings(net[0])]
BOTH = ((0, 1, 0, 1), (0, 1, 0, 0))


def plain_between(net, a, b):
    pieces = [plain_pieces(net, setting) for setting in plain_settings(net[0])]
    return tuple(int(any(a in piece and b in piece for piece in some)) for some in pieces)


def plain_counts(net):
    bits = dict(zip(plain_settings(net[0]), plain_function(net)))
    told = [0] * net[0]
    for one, other in itertools.product(bits, repeat=2):
        unlike = [switch for switch in range(net[0]) if one[switch] != other[switch]]
        if len(unlike) == 1 and bits[one] != bits[other]:
            told[unlike[0]] += 1
    return tuple(told)


class Interface(unittest.TestCase):
    def test_arguments(self):
        wanted = {"pieces_at": ["net", "setting"], "rings_at": ["net", "setting"], "between": ["net", "one", "other"],
                  "always_joined": ["net"], "never_joined": ["net"], "turn_counts": ["net"], "used": ["net"]}
        for name, arguments in wanted.items():
            self.assertEqual(list(inspect.signature(getattr(poles, name)).parameters), arguments, name)


class Pieces(unittest.TestCase):
    def test_as_written(self):
        self.assertEqual(pieces_at(LADDER, (1, 1, 1)), [(0, 2, 3), (1,)])
        self.assertEqual(pieces_at(LADDER, (0, 0, 0)), [(0,), (1, 2, 3)])
        self.assertEqual(pieces_at(LADDER, (1, 0, 0)), [(0, 1, 2), (3,)])
        self.assertEqual(pieces_at(APART, (1, 1)), [(0, 2, 4), (1,), (3,)])
        self.assertEqual(pieces_at(APART, (0, 1)), [(0,), (1, 3), (2, 4)])
        self.assertEqual(pieces_at(CHAIN, (1, 0, 1, 1)), [(0, 1, 2, 3, 4, 5, 6)])

    def test_nothing_shut(self):
        self.assertEqual(pieces_at(EMPTY, (0,)), [(0,), (1,)])
        self.assertEqual(pieces_at((4, 7, ()), (1, 1, 1, 1)), [(0,), (1,), (2,), (3,), (4,), (5,), (6,)])
        self.assertEqual(pieces_at(ALIKE, (0, 1)), [(0,), (1,), (2,)])
        self.assertEqual(rings_at(ALIKE, (0, 1)), 0)
        self.assertEqual(rings_at(EMPTY, (0,)), 0)
        self.assertEqual(rings_at((4, 7, ()), (0, 0, 0, 0)), 0)

    def test_by_least_places_whatever_the_order_of_contacts(self):
        contacts = ((4, 6, 0, 1), (3, 5, 0, 1), (2, 6, 0, 1), (1, 3, 0, 1))
        for order in itertools.permutations(contacts):
            self.assertEqual(pieces_at((1, 7, order), (1,)), [(0,), (1, 3, 5), (2, 4, 6)])

    def test_each_setting_of_all_nets(self):
        for net, setting in EACH_SETTING:
            told = pieces_at(net, setting)
            self.assertEqual(told, plain_pieces(net, setting))
            self.assertIs(type(told), list)
            self.assertTrue(only_of(tuple(told), tuple, int))

    def test_a_new_list_each_time(self):
        told = pieces_at(LADDER, (1, 1, 1))
        told.append((9,))
        self.assertEqual(pieces_at(LADDER, (1, 1, 1)), [(0, 2, 3), (1,)])


class Rings(unittest.TestCase):
    def test_as_written(self):
        self.assertEqual(rings_at(LADDER, (1, 1, 1)), 1)
        self.assertEqual(rings_at(LADDER, (1, 1, 0)), 0)
        self.assertEqual(rings_at(ALIKE, (1, 0)), 2)
        self.assertEqual(rings_at(ALIKE, (1, 1)), 1)
        self.assertEqual(rings_at(thick(2, 16), (0,)), 7)
        self.assertEqual(rings_at((1, 2, ((0, 1, 0, 1),) * 16), (1,)), 15)
        self.assertEqual(rings_at((1, 7, ((0, 1, 0, 1),) * 16), (0,)), 0)

    def test_each_setting_of_all_nets(self):
        told = []
        for net, setting in EACH_SETTING:
            shut = plain_shut(net, setting)
            rings = rings_at(net, setting)
            self.assertIs(type(rings), int)
            self.assertEqual(rings, len(shut) - net[1] + len(plain_pieces(net, setting)))
            count = len(set(plain_marks(net, shut)))
            spare = [number for number in shut
                     if len(set(plain_marks(net, [other for other in shut if other != number]))) == count]
            self.assertEqual(rings == 0, not spare)
            told.append(rings > 0)
        self.assertTrue(min(told.count(True), told.count(False)) > 100)


class Between(unittest.TestCase):
    def test_as_written(self):
        self.assertEqual(between(LADDER, 0, 1), plain_function(LADDER))
        self.assertEqual(between(APART, 0, 4), (0, 0, 0, 1))
        self.assertEqual(between(APART, 4, 0), (0, 0, 0, 1))
        self.assertEqual(between(APART, 3, 1), (1, 1, 0, 0))
        self.assertEqual(between(APART, 3, 3), (1, 1, 1, 1))
        self.assertEqual(between(EMPTY, 0, 0), (1, 1))
        self.assertEqual(between(EMPTY, 1, 0), (0, 0))

    def test_all_places_of_all_nets(self):
        for net in ASKED:
            for a, b in itertools.product(range(net[1]), repeat=2):
                told = between(net, a, b)
                self.assertEqual(told, plain_between(net, a, b))
                self.assertTrue(only_of(told, tuple, int))
            self.assertEqual(between(net, 0, 1), plain_function(net))

    def test_no_place(self):
        for net in (LADDER, ALIKE, EMPTY, CHAIN, SPLIT, (1, 7, ())):
            wrong = [thing for thing in NO_NUMBERS + [net[1], net[1] + 1, -net[1], {"a": [1]}, [[]], (0, 1)]]
            for thing in wrong:
                for place in (0, 1, net[1] - 1):
                    refused(self, "NoPlace", between, net, thing, place)
                    refused(self, "NoPlace", between, net, place, thing)
                refused(self, "NoPlace", between, net, thing, thing)
        refused(self, "NoPlace", between, LADDER, None, [])

    def test_the_greatest_place(self):
        for places in range(2, 8):
            self.assertEqual(between((1, places, ()), places - 1, 0), (0, 0))
            refused(self, "NoPlace", between, (1, places, ()), places, 0)
            refused(self, "NoPlace", between, (1, places, ()), 0, places)
            refused(self, "NoPlace", between, (1, places, ()), places, places)

    def test_what_is_handed_in_stays(self):
        thing = [0, {1: [2]}]
        refused(self, "NoPlace", between, LADDER, thing, 0)
        refused(self, "NoPlace", between, LADDER, 0, thing)
        self.assertEqual(thing, [0, {1: [2]}])


class Joined(unittest.TestCase):
    def test_as_written(self):
        self.assertEqual(always_joined((1, 3, BOTH)), [(0, 1)])
        self.assertEqual(never_joined((1, 3, BOTH)), [(0, 2), (1, 2)])
        self.assertEqual(always_joined((1, 3, BOTH + ((1, 2, 0, 1), (0, 2, 0, 0)))), [(0, 1), (0, 2), (1, 2)])
        self.assertEqual(never_joined((1, 3, BOTH + ((1, 2, 0, 1), (0, 2, 0, 0)))), [])
        self.assertEqual(always_joined(APART), [])
        self.assertEqual(never_joined(APART), [(0, 1), (0, 3), (1, 2), (1, 4), (2, 3), (3, 4)])

    def test_no_contacts(self):
        for places in range(2, 8):
            self.assertEqual(always_joined((1, places, ())), [])
            self.assertEqual(never_joined((4, places, ())), list(itertools.combinations(range(places), 2)))

    def test_all_nets(self):
        told = {"always": 0, "never": 0, "at times": 0}
        for net in ASKED:
            pairs = list(itertools.combinations(range(net[1]), 2))
            always = [pair for pair in pairs if 0 not in plain_between(net, *pair)]
            never = [pair for pair in pairs if 1 not in plain_between(net, *pair)]
            self.assertEqual(always_joined(net), always)
            self.assertEqual(never_joined(net), never)
            told["always"] += len(always)
            told["never"] += len(never)
            told["at times"] += len(pairs) - len(always) - len(never)
        self.assertTrue(min(told.values()) > 20, told)

    def test_kinds(self):
        for net in ((1, 4, BOTH), LADDER):
            for told in (always_joined(net), never_joined(net)):
                self.assertIs(type(told), list)
                self.assertTrue(only_of(tuple(told), tuple, int))

    def test_a_new_list_each_time(self):
        for asked in (always_joined, never_joined):
            told = asked((1, 3, BOTH))
            before = list(told)
            told.clear()
            self.assertEqual(asked((1, 3, BOTH)), before)


class Turns(unittest.TestCase):
    def test_as_written(self):
        self.assertEqual(turn_counts(EMPTY), (0,))
        self.assertEqual(used(EMPTY), ())
        self.assertEqual(turn_counts((1, 2, ((0, 1, 0, 1),))), (2,))
        self.assertEqual(turn_counts((1, 2, BOTH)), (0,))
        self.assertEqual(turn_counts(ALIKE), (2, 2))
        self.assertEqual(used(ALIKE), (0, 1))
        self.assertEqual(turn_counts(LOOSE_ENDS), (0, 4))
        self.assertEqual(used(LOOSE_ENDS), (1,))
        self.assertEqual(turn_counts(LADDER), (8, 8, 0))
        self.assertEqual(used(LADDER), (0, 1))
        self.assertEqual(turn_counts(CHAIN), (2, 2, 2, 2))
        self.assertEqual(turn_counts((4, 2, ((0, 1, 2, 0),))), (0, 0, 16, 0))
        self.assertEqual(used((4, 2, ((0, 1, 2, 0),))), (2,))
        self.assertEqual(used((4, 7, ())), ())

    def test_all_nets(self):
        for net in ASKED:
            counts = turn_counts(net)
            self.assertEqual(counts, plain_counts(net))
            self.assertTrue(all(count % 2 == 0 for count in counts))
            self.assertTrue(only_of((counts, used(net)), tuple, int))
            self.assertEqual(used(net), tuple(switch for switch in range(net[0]) if plain_counts(net)[switch]))

    def test_the_function_hangs_on_the_used_ones_alone(self):
        for net in ASKED:
            found = {}
            for setting, bit in zip(plain_settings(net[0]), plain_function(net)):
                key = tuple(setting[switch] for switch in used(net))
                self.assertEqual(found.setdefault(key, bit), bit)


class Beyond(unittest.TestCase):
    def test_asked_again(self):
        for net in ASKED[:20]:
            for asked in (always_joined, never_joined, turn_counts, used):
                self.assertEqual(asked(net), asked(net))

    def test_a_net_somewhat_beyond_is_not_refused(self):
        net = (5, 8, tuple((a, b, 4, 1) for a, b in ((0, 2), (2, 3), (3, 4), (4, 5), (5, 6), (6, 7), (1, 7))) * 2
               + ((0, 7, 3, 0), (1, 5, 0, 1), (0, 1, 1, 1)))
        for setting in plain_settings(5):
            self.assertEqual(pieces_at(net, setting), plain_pieces(net, setting))
        self.assertEqual(between(net, 7, 2), plain_between(net, 7, 2))
        self.assertEqual(turn_counts(net), plain_counts(net))
        refused(self, "NoPlace", between, net, 8, 0)


if __name__ == "__main__":
    unittest.main()
