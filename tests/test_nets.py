import copy
import inspect
import itertools
import unittest

from contactnets import nets
from contactnets.nets import function_of, is_function, is_net, lets, named, settings, shut_at, turned
from tests.helper import ALIKE, APART, CHAIN, EMPTY, LADDER, LARGE_NETS, NETS, ODD_THINGS
from tests.helper import plain_joins, plain_settings, plain_shut

CONTACT = (0, 1, 0, 1)


class Interface(unittest.TestCase):
    def test_arguments(self):
        wanted = {"is_net": ["thing"], "settings": ["switches"], "shut_at": ["net", "setting"],
                  "lets": ["net", "setting"], "is_function": ["switches", "thing"], "function_of": ["net"],
                  "turned": ["net", "some"], "named": ["net", "order"]}
        for name, arguments in wanted.items():
            self.assertEqual(list(inspect.signature(getattr(nets, name)).parameters), arguments, name)


class IsNet(unittest.TestCase):
    def yes(self, thing):
        self.assertIs(is_net(thing), True, thing)

    def no(self, thing):
        self.assertIs(is_net(thing), False, thing)

    def test_ordinary_nets(self):
        for net in NETS + LARGE_NETS:
            self.yes(net)

    def test_bounds(self):
        self.yes((1, 2, ()))
        self.yes((4, 7, ()))
        self.yes((4, 2, ((0, 1, 3, 0),)))
        self.yes((1, 7, ((5, 6, 0, 1), (0, 6, 0, 0))))
        self.yes((1, 2, (CONTACT,) * 16))
        self.yes((2, 3, (CONTACT, (1, 2, 1, 0), CONTACT)))

    def test_switches(self):
        for switches in (0, 5, -1, 10 ** 29, True, False, None, "1", "", (1,), [1], {}):
            self.no((switches, 2, ()))
            self.no((switches, 2, (CONTACT,)))

    def test_places(self):
        for places in (1, 0, 8, -2, 10 ** 29, True, False, None, "2", (2,), [2], {}):
            self.no((1, places, ()))
            self.no((1, places, (CONTACT,)))

    def test_contacts_as_a_whole(self):
        self.no((1, 2, (CONTACT,) * 17))
        for contacts in ([], [CONTACT], None, "", 0, True, {}, {CONTACT: 1}, CONTACT, ((CONTACT,),)):
            self.no((1, 2, contacts))

    def test_a_contact_that_is_none(self):
        wrong = [(0, 3, 0, 1), (3, 4, 0, 1), (1, 1, 0, 1), (0, 0, 0, 1), (1, 0, 0, 1), (2, 1, 0, 1), (-1, 1, 0, 1),
                 (0, 10 ** 29, 0, 1), (0, 1, 2, 1), (0, 1, -1, 1), (0, 1, 0, 2), (0, 1, 0, -1),
                 (0, 1, 0), (0, 1, 0, 1, 0), (), [0, 1, 0, 1], None, True, 0, "0101", {0: 1, 1: 0, 2: 1, 3: 1}]
        for contact in wrong:
            self.no((2, 3, (contact,)))
            self.no((2, 3, (CONTACT, contact)))
            self.no((2, 3, (contact, CONTACT)))

    def test_a_part_of_a_contact_of_another_kind(self):
        for index, part in itertools.product(range(4), (True, False, None, "0", "1", (0,), [1], {})):
            contact = list(CONTACT)
            contact[index] = part
            self.no((2, 3, (tuple(contact),)))

    def test_other_forms(self):
        for thing in ODD_THINGS:
            self.no(thing)
        for thing in ((), (1,), (1, 2), (1, 2, (), ()), (1, 2, (), None), [1, 2, ()], (2, 1, ()), "12:", ((1, 2, ()),)):
            self.no(thing)

    def test_what_is_handed_in_stays_and_is_not_kept(self):
        contacts = [[0, 1, 0, 1]]
        thing = (1, 2, contacts)
        self.no(thing)
        self.assertEqual(thing, (1, 2, [[0, 1, 0, 1]]))
        contacts.clear()
        self.no(thing)
        self.yes((1, 2, ()))


class Settings(unittest.TestCase):
    def test_as_written(self):
        self.assertEqual(settings(1), [(0,), (1,)])
        self.assertEqual(settings(2), [(0, 0), (0, 1), (1, 0), (1, 1)])

    def test_one_to_four_switches(self):
        for switches in range(1, 5):
            told = settings(switches)
            self.assertEqual(told, plain_settings(switches))
            self.assertEqual(told, sorted(set(told)))
            self.assertIs(type(told), list)
            for setting in told:
                self.assertIs(type(setting), tuple)
                self.assertTrue(all(type(bit) is int for bit in setting))

    def test_a_new_list_each_time(self):
        for switches in range(1, 5):
            told = settings(switches)
            self.assertIsNot(told, settings(switches))
            told.clear()
            self.assertEqual(settings(switches), plain_settings(switches))

    def test_somewhat_beyond_is_not_refused(self):
        self.assertEqual(settings(5), plain_settings(5))


class ShutAndLets(unittest.TestCase):
    def test_shut_for_on_and_off(self):
        net = (2, 3, ((0, 1, 0, 1), (0, 1, 0, 0), (1, 2, 1, 1), (1, 2, 1, 0)))
        self.assertEqual(shut_at(net, (0, 0)), (1, 3))
        self.assertEqual(shut_at(net, (0, 1)), (1, 2))
        self.assertEqual(shut_at(net, (1, 0)), (0, 3))
        self.assertEqual(shut_at(net, (1, 1)), (0, 2))
        self.assertEqual(shut_at(EMPTY, (0,)), ())

    def test_shut_in_all_nets(self):
        for net in NETS + LARGE_NETS:
            for setting in plain_settings(net[0]):
                told = shut_at(net, setting)
                self.assertIs(type(told), tuple)
                self.assertEqual(told, plain_shut(net, setting))

    def test_lets_along_one_contact(self):
        self.assertIs(lets((1, 2, ((0, 1, 0, 1),)), (1,)), True)
        self.assertIs(lets((1, 2, ((0, 1, 0, 1),)), (0,)), False)
        self.assertIs(lets((1, 2, ((0, 1, 0, 0),)), (0,)), True)
        self.assertIs(lets((1, 2, ((0, 1, 0, 0),)), (1,)), False)

    def test_lets_against_the_rising_of_places(self):
        self.assertIs(lets((1, 3, ((1, 2, 0, 1), (0, 2, 0, 1))), (1,)), True)
        self.assertIs(lets((1, 4, ((1, 2, 0, 1), (2, 3, 0, 1), (0, 3, 0, 1))), (1,)), True)

    def test_lets_round_about(self):
        self.assertIs(lets(CHAIN, (1, 0, 1, 1)), True)
        for setting in plain_settings(4):
            self.assertIs(lets(CHAIN, setting), setting == (1, 0, 1, 1))

    def test_no_contact_lets_nothing_through(self):
        for switches, places in ((1, 2), (4, 7)):
            for setting in plain_settings(switches):
                self.assertIs(lets((switches, places, ()), setting), False)

    def test_both_ends_reached_but_not_joined(self):
        for setting in plain_settings(2):
            self.assertIs(lets(APART, setting), False)

    def test_lets_in_all_nets(self):
        for net in NETS + LARGE_NETS:
            for setting in plain_settings(net[0]):
                self.assertIs(lets(net, setting), plain_joins(net, plain_shut(net, setting)))


class Functions(unittest.TestCase):
    def test_functions(self):
        for switches in range(1, 5):
            size = 2 ** switches
            for bits in ((0,) * size, (1,) * size, (0,) * (size - 1) + (1,), (1, 0) * (size // 2)):
                self.assertIs(is_function(switches, bits), True)

    def test_a_bit_more_or_fewer(self):
        for switches in range(1, 5):
            size = 2 ** switches
            for length in (0, 1, size - 1, size + 1, size * 2, size // 2):
                if length != size:
                    self.assertIs(is_function(switches, (0,) * length), False)
                    self.assertIs(is_function(switches, (1,) * length), False)

    def test_a_part_that_is_no_bit(self):
        for switches in range(1, 5):
            size = 2 ** switches
            for index, part in itertools.product(range(size), (2, -1, 10 ** 29, True, False, None, "1", (0,), [1], {})):
                bits = [0] * size
                bits[index] = part
                self.assertIs(is_function(switches, tuple(bits)), False, bits)

    def test_other_kinds(self):
        for switches in range(1, 5):
            size = 2 ** switches
            for thing in ODD_THINGS + [[0] * size, [1] * size, "0" * size, dict.fromkeys(range(size), 0)]:
                before = copy.deepcopy(thing)
                self.assertIs(is_function(switches, thing), False, thing)
                self.assertEqual(thing, before)

    def test_function_as_written(self):
        self.assertEqual(function_of((1, 2, ((0, 1, 0, 1),))), (0, 1))
        self.assertEqual(function_of((2, 3, ((0, 2, 0, 1), (1, 2, 1, 0)))), (0, 0, 1, 0))
        self.assertEqual(function_of((2, 2, ((0, 1, 0, 1), (0, 1, 1, 1)))), (0, 1, 1, 1))
        self.assertEqual(function_of(EMPTY), (0, 0))
        self.assertEqual(function_of((1, 2, ((0, 1, 0, 1), (0, 1, 0, 0)))), (1, 1))
        self.assertEqual(function_of((4, 2, ((0, 1, 3, 1),))), (0, 1) * 8)

    def test_function_of_all_nets(self):
        for net in NETS + LARGE_NETS:
            told = function_of(net)
            self.assertIs(is_function(net[0], told), True)
            wanted = [plain_joins(net, plain_shut(net, setting)) for setting in plain_settings(net[0])]
            self.assertEqual(told, tuple(int(bit) for bit in wanted))


def some_of(switches):
    return [some for count in range(switches + 1) for some in itertools.combinations(range(switches), count)]


class TurnedAndNamed(unittest.TestCase):
    def test_turned_as_written(self):
        self.assertEqual(turned(LADDER, ()), LADDER)
        self.assertEqual(turned(LADDER, (0, 2)),
                         (3, 4, ((0, 2, 0, 0), (0, 3, 1, 1), (2, 3, 2, 0), (1, 2, 1, 0), (1, 3, 0, 1))))
        self.assertEqual(turned(ALIKE, (0, 1)), (2, 3, ((0, 2, 0, 0), (0, 2, 0, 0), (1, 2, 1, 1), (1, 2, 1, 1))))
        self.assertEqual(turned(EMPTY, (0,)), EMPTY)

    def test_turned_by_all_choices(self):
        for net in NETS:
            for some in some_of(net[0]):
                told = turned(net, some)
                contacts = tuple((a, b, k, 1 - on if k in some else on) for a, b, k, on in net[2])
                self.assertEqual(told, (net[0], net[1], contacts))
                self.assertIs(is_net(told), True)
                self.assertEqual(turned(told, some), net)
                for setting in plain_settings(net[0]):
                    other = tuple(1 - bit if k in some else bit for k, bit in enumerate(setting))
                    self.assertEqual(lets(told, other), lets(net, setting))

    def test_named_as_written(self):
        self.assertEqual(named(LADDER, (1, 2, 0)),
                         (3, 4, ((0, 2, 1, 1), (0, 3, 2, 1), (2, 3, 0, 1), (1, 2, 2, 0), (1, 3, 1, 0))))
        net = (4, 2, ((0, 1, 0, 1), (0, 1, 1, 0), (0, 1, 2, 1), (0, 1, 3, 0)))
        self.assertEqual(named(net, (2, 0, 3, 1)), (4, 2, ((0, 1, 2, 1), (0, 1, 0, 0), (0, 1, 3, 1), (0, 1, 1, 0))))
        self.assertEqual(named(EMPTY, (0,)), EMPTY)

    def test_named_by_all_orders(self):
        for net in NETS:
            for order in itertools.permutations(range(net[0])):
                told = named(net, order)
                contacts = tuple((a, b, order[k], on) for a, b, k, on in net[2])
                self.assertEqual(told, (net[0], net[1], contacts))
                self.assertIs(is_net(told), True)
                back = tuple(order.index(k) for k in range(net[0]))
                self.assertEqual(named(told, back), net)
                for setting in plain_settings(net[0]):
                    self.assertEqual(lets(net, tuple(setting[k] for k in order)), lets(told, setting))


class Beyond(unittest.TestCase):
    def test_a_net_somewhat_beyond_is_not_refused(self):
        net = (5, 9, ((0, 8, 4, 1), (7, 8, 3, 1), (1, 7, 0, 0)) + (CONTACT,) * 15)
        self.assertIs(is_net(net), False)
        self.assertEqual(shut_at(net, (0, 0, 0, 1, 1)), (0, 1, 2))
        self.assertIs(lets(net, (0, 0, 0, 1, 1)), True)
        self.assertIs(is_function(5, function_of(net)), True)
        self.assertEqual(sum(function_of(net)), 16 + 4)
        self.assertEqual(named(turned(net, (4,)), (1, 2, 3, 4, 0))[2][0], (0, 8, 0, 0))


if __name__ == "__main__":
    unittest.main()
