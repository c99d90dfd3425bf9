import copy
import inspect
import itertools
import unittest

from contactnets import alike
from contactnets.alike import first_unlike, idle, lots, plain, trimmed
from contactnets.nets import is_net
from tests.helper import ALIKE, APART, CHAIN, EMPTY, LADDER, LARGE_NETS, LOOSE_ENDS, NETS, SPLIT
from tests.helper import made_nets, only_of, plain_bridged, plain_cut, plain_function, plain_settings
from tests.helper import plain_trimmed, thick

ASKED = NETS + LARGE_NETS + made_nets(60, 4, 16)
ONE = (1, 2, ((0, 1, 0, 1),))
OTHER = (1, 2, ((0, 1, 0, 0),))
BOTH = (1, 2, ((0, 1, 0, 1), (0, 1, 0, 0)))


def of_switches(switches):
    return [net for net in ASKED if net[0] == switches]


def plain_unlike(one, other):
    for setting, first, second in zip(plain_settings(one[0]), plain_function(one), plain_function(other)):
        if first != second:
            return setting
    return None


def plain_idle(net):
    return tuple(number for number in range(len(net[2]))
                 if plain_function(plain_cut(net, number)) == plain_function(net))


def plain_plain(net):
    return tuple(number for number in range(len(net[2])) if net[2][number][:2] != (0, 1)
                 and plain_function(plain_bridged(net, number)) == plain_function(net))


def plain_lots(nets):
    functions = [plain_function(net) for net in nets]
    told = [[number for number, other in enumerate(functions) if other == function] for function in functions]
    return [lot for number, lot in enumerate(told) if lot[0] == number]


class Interface(unittest.TestCase):
    def test_arguments(self):
        wanted = {"first_unlike": ["one", "other"], "idle": ["net"], "plain": ["net"], "trimmed": ["net"],
                  "lots": ["nets"]}
        for name, arguments in wanted.items():
            self.assertEqual(list(inspect.signature(getattr(alike, name)).parameters), arguments, name)


class FirstUnlike(unittest.TestCase):
    def test_as_written(self):
        self.assertEqual(first_unlike(ONE, OTHER), (0,))
        self.assertEqual(first_unlike(ONE, BOTH), (0,))
        self.assertEqual(first_unlike(ONE, EMPTY), (1,))
        self.assertIsNone(first_unlike(ONE, (1, 7, ((2, 3, 0, 0), (0, 6, 0, 1), (1, 6, 0, 1)))))
        self.assertEqual(first_unlike((2, 2, ((0, 1, 0, 1),)), (2, 2, ((0, 1, 1, 1),))), (0, 1))
        self.assertEqual(first_unlike((2, 2, ((0, 1, 0, 1),)), ALIKE), (1, 1))
        self.assertEqual(first_unlike((4, 2, ()), CHAIN), (1, 0, 1, 1))

    def test_all_pairs(self):
        told = {True: 0, False: 0}
        for switches in range(1, 5):
            for one, other in itertools.product(of_switches(switches), repeat=2):
                setting = first_unlike(one, other)
                self.assertEqual(setting, plain_unlike(one, other))
                self.assertTrue(setting is None or only_of(setting, tuple, int))
                told[setting is None] += 1
        self.assertTrue(min(told.values()) > 200, told)

    def test_a_net_and_itself(self):
        for net in ASKED:
            self.assertIsNone(first_unlike(net, net))
            self.assertIsNone(first_unlike(net, (net[0], net[1], net[2][::-1])))

    def test_each_setting_may_be_the_first(self):
        for switches in range(1, 5):
            for bits in plain_settings(switches):
                places = [0] + list(range(2, switches + 1)) + [1]
                ends = [tuple(sorted(pair)) for pair in zip(places, places[1:])]
                net = (switches, switches + 1, tuple((a, b, k, bits[k]) for k, (a, b) in enumerate(ends)))
                self.assertEqual(first_unlike(net, (switches, 2, ())), bits)
                self.assertEqual(first_unlike((switches, 2, ()), net), bits)


class IdleAndPlain(unittest.TestCase):
    def test_as_written(self):
        self.assertEqual(idle(ALIKE), (0, 1, 2, 3))
        self.assertEqual(plain(ALIKE), ())
        self.assertEqual(idle(LADDER), (2,))
        self.assertEqual(plain(LADDER), (2,))
        self.assertEqual(idle(LOOSE_ENDS), (0, 2, 3))
        self.assertEqual(plain(LOOSE_ENDS), (0, 2, 3))
        self.assertEqual(idle(BOTH), ())
        self.assertEqual(idle((1, 3, ((0, 2, 0, 1), (1, 2, 0, 1)))), ())
        self.assertEqual(plain((1, 3, ((0, 2, 0, 1), (1, 2, 0, 1)))), (0, 1))
        self.assertEqual(plain((1, 3, ((0, 2, 0, 1), (1, 2, 0, 0)))), ())
        self.assertEqual(idle((1, 3, ((0, 2, 0, 1), (1, 2, 0, 0)))), (0, 1))

    def test_a_contact_between_0_and_1_is_never_plain(self):
        for count in (1, 2, 16):
            self.assertEqual(plain(thick(2, count)), ())
            self.assertEqual(plain(thick(3, count)), ())
        self.assertEqual(plain((1, 3, ((0, 1, 0, 1), (0, 1, 0, 0), (0, 2, 0, 1)))), (2,))

    def test_no_contacts(self):
        for net in (EMPTY, (4, 7, ())):
            self.assertEqual(idle(net), ())
            self.assertEqual(plain(net), ())

    def test_sixteen_contacts(self):
        self.assertEqual(idle(thick(2, 16)), tuple(range(16)))
        self.assertEqual(idle((1, 2, ((0, 1, 0, 1),) * 15 + ((0, 1, 0, 0),))), tuple(range(15)))
        self.assertEqual(idle(SPLIT), tuple(range(16)))

    def test_all_nets(self):
        told = {"idle": 0, "plain": 0, "neither": 0}
        for net in ASKED:
            self.assertEqual(idle(net), plain_idle(net))
            self.assertEqual(plain(net), plain_plain(net))
            self.assertTrue(only_of((idle(net), plain(net)), tuple, int))
            told["idle"] += len(idle(net))
            told["plain"] += len(plain(net))
            told["neither"] += len(set(range(len(net[2]))) - set(idle(net)) - set(plain(net)))
        self.assertTrue(min(told.values()) > 20, told)


class Trimmed(unittest.TestCase):
    def test_as_written(self):
        self.assertEqual(trimmed(ALIKE), (2, 3, ((0, 2, 0, 1), (1, 2, 1, 0))))
        self.assertEqual(trimmed(LOOSE_ENDS), (2, 5, ((0, 1, 1, 0),)))
        self.assertEqual(trimmed(APART), (2, 5, ()))
        self.assertEqual(trimmed((4, 7, ())), (4, 7, ()))
        self.assertEqual(trimmed(BOTH), BOTH)
        self.assertEqual(trimmed(SPLIT), (4, 7, ()))

    def test_the_first_idle_one_goes_first(self):
        chain = ((0, 2, 0, 1), (1, 2, 0, 1))
        straight = ((0, 1, 0, 1),)
        self.assertEqual(trimmed((1, 3, chain + straight)), (1, 3, straight))
        self.assertEqual(trimmed((1, 3, straight + chain)), (1, 3, chain))
        self.assertEqual(trimmed((1, 3, chain[:1] + straight + chain[1:])), (1, 3, straight))
        mixed = (2, 2, ((0, 1, 0, 1), (0, 1, 1, 1), (0, 1, 0, 1), (0, 1, 1, 1), (0, 1, 0, 1)))
        self.assertEqual(trimmed(mixed), (2, 2, ((0, 1, 1, 1), (0, 1, 0, 1))))

    def test_sixteen_contacts(self):
        self.assertEqual(trimmed(thick(2, 16)), (1, 2, ((0, 1, 0, 0), (0, 1, 0, 1))))
        self.assertEqual(trimmed((1, 2, ((0, 1, 0, 1),) * 16)), ONE)

    def test_all_nets(self):
        for net in ASKED:
            told = trimmed(net)
            self.assertEqual(told, plain_trimmed(net))
            self.assertIs(is_net(told), True)
            self.assertTrue(only_of(told, tuple, int))
            self.assertEqual(plain_function(told), plain_function(net))
            self.assertEqual(plain_idle(told), ())
            self.assertEqual(trimmed(told), told)


class Lots(unittest.TestCase):
    def test_as_written(self):
        self.assertEqual(lots([ONE]), [[0]])
        self.assertEqual(lots([ONE, ONE]), [[0, 1]])
        self.assertEqual(lots([ONE, OTHER, EMPTY, BOTH]), [[0], [1], [2], [3]])
        self.assertEqual(lots([BOTH, ONE, OTHER, (1, 5, ((0, 1, 0, 1),)), BOTH, OTHER, ONE]),
                         [[0, 4], [1, 3, 6], [2, 5]])
        self.assertEqual(lots([OTHER, ONE, EMPTY, ONE, OTHER]), [[0, 4], [1, 3], [2]])

    def test_one_to_forty_nets(self):
        for switches in range(1, 5):
            nets = (of_switches(switches) * 3)[:40]
            self.assertEqual(len(nets), 40)
            for count in range(1, 41):
                told = lots(nets[:count])
                self.assertEqual(told, plain_lots(nets[:count]))
                self.assertEqual(sorted(sum(told, [])), list(range(count)))
        self.assertEqual(lots([ALIKE] * 40), [list(range(40))])

    def test_kinds(self):
        told = lots([ONE, OTHER, ONE])
        self.assertIs(type(told), list)
        self.assertTrue(all(only_of(lot, list, int) for lot in told))

    def test_somewhat_beyond_is_not_refused(self):
        self.assertEqual(lots([ONE, OTHER] * 22), [list(range(0, 44, 2)), list(range(1, 44, 2))])


class TheAskersOwn(unittest.TestCase):
    def test_what_is_handed_in_stays_and_is_not_kept(self):
        nets = [ONE, OTHER, ONE]
        told = lots(nets)
        self.assertEqual(nets, [ONE, OTHER, ONE])
        nets.clear()
        self.assertEqual(told, [[0, 2], [1]])
        self.assertEqual(lots([ONE, OTHER, ONE]), [[0, 2], [1]])

    def test_lists_changed_and_asked_again(self):
        nets = [ONE, OTHER, ONE, EMPTY]
        told = lots(nets)
        before = copy.deepcopy(told)
        self.assertEqual(len({id(lot) for lot in told}), 3)
        for lot in told:
            lot.append(9)
        told.clear()
        self.assertEqual(lots(nets), before)

    def test_asked_again(self):
        for net in ASKED[:20]:
            for asked in (idle, plain, trimmed):
                self.assertEqual(asked(net), asked(net))

    def test_a_net_somewhat_beyond_is_not_refused(self):
        net = (5, 8, tuple((a, b, 4, 1) for a, b in ((0, 2), (2, 3), (3, 4), (4, 5), (5, 6), (6, 7), (1, 7))) * 2
               + ((0, 7, 3, 0), (1, 5, 0, 1), (0, 1, 1, 1)))
        self.assertEqual(idle(net), plain_idle(net))
        self.assertEqual(plain(net), plain_plain(net))
        self.assertEqual(trimmed(net), plain_trimmed(net))
        self.assertEqual(first_unlike(net, (5, 2, ())), plain_unlike(net, (5, 2, ())))


if __name__ == "__main__":
    unittest.main()
