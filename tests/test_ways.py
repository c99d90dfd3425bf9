import copy
import inspect
import itertools
import unittest

from contactnets import ways
from contactnets.nets import lets
from contactnets.ways import all_bars, all_ways, bar_at, is_bar, is_way, live_bars, live_ways, way_at
from tests.helper import ALIKE, APART, CHAIN, EMPTY, LADDER, LARGE_NETS, LOOSE_ENDS, NETS, ODD_THINGS, SPLIT
from tests.helper import plain_choices, plain_settings, plain_shut

GONE_THROUGH = [(net,) + plain_choices(net) for net in NETS + LARGE_NETS]


class Interface(unittest.TestCase):
    def test_arguments(self):
        wanted = {"all_ways": ["net"], "all_bars": ["net"], "is_way": ["net", "thing"], "is_bar": ["net", "thing"],
                  "live_ways": ["net"], "live_bars": ["net"], "way_at": ["net", "setting"],
                  "bar_at": ["net", "setting"]}
        for name, arguments in wanted.items():
            self.assertEqual(list(inspect.signature(getattr(ways, name)).parameters), arguments, name)


class AllWaysAndBars(unittest.TestCase):
    def test_as_written(self):
        self.assertEqual(all_ways(LADDER), [(0, 2, 4), (0, 3), (1, 2, 3), (1, 4)])
        self.assertEqual(all_bars(LADDER), [(0, 1), (0, 2, 4), (1, 2, 3), (3, 4)])

    def test_contacts_alike(self):
        self.assertEqual(all_ways(ALIKE), [(0, 2), (0, 3), (1, 2), (1, 3)])
        self.assertEqual(all_bars(ALIKE), [(0, 1), (2, 3)])
        self.assertEqual(all_ways((1, 2, ((0, 1, 0, 1),) * 3)), [(0,), (1,), (2,)])
        self.assertEqual(all_bars((1, 2, ((0, 1, 0, 1),) * 3)), [(0, 1, 2)])

    def test_contacts_on_no_way(self):
        self.assertEqual(all_ways(LOOSE_ENDS), [(1,)])
        self.assertEqual(all_bars(LOOSE_ENDS), [(1,)])

    def test_a_long_way_is_told_rising(self):
        self.assertEqual(all_ways(CHAIN), [(0, 1, 2, 3, 4, 5)])
        self.assertEqual(all_bars(CHAIN), [(0,), (1,), (2,), (3,), (4,), (5,)])

    def test_what_does_not_join(self):
        for net in (APART, EMPTY, SPLIT, (4, 7, ())):
            self.assertEqual(all_ways(net), [])
            self.assertEqual(all_bars(net), [()])
            self.assertIs(is_bar(net, ()), True)
            self.assertIs(is_way(net, ()), False)

    def test_the_order_of_tuples_not_of_lengths(self):
        net = (1, 3, ((0, 2, 0, 1), (1, 2, 0, 1), (0, 1, 0, 1)))
        self.assertEqual(all_ways(net), [(0, 1), (2,)])

    def test_against_all_choices(self):
        for net, plain_ways, plain_bars in GONE_THROUGH:
            with self.subTest(net=net):
                self.assertEqual(all_ways(net), plain_ways)
                self.assertEqual(all_bars(net), plain_bars)

    def test_kinds(self):
        for net in NETS:
            for told in (all_ways(net), all_bars(net), live_ways(net), live_bars(net)):
                self.assertIs(type(told), list)
                for some in told:
                    self.assertIs(type(some), tuple)
                    self.assertTrue(all(type(number) is int for number in some))

    def test_each_way_meets_each_bar(self):
        for net in NETS:
            for way, bar in itertools.product(all_ways(net), all_bars(net)):
                self.assertTrue(set(way) & set(bar))


def spoilt(some, count):
    """What is made of some contacts by a change that leaves no rising tuple of numbers of contacts."""
    told = [list(some), {number: 1 for number in some}, str(some), (some,)]
    told += [some + (count,), some + (10 ** 29,), (-1,) + some, some + (None,), some + ("0",), some + ((),)]
    for index, number in enumerate(some):
        told.append(some[:index] + (number,) + some[index:])
        told.append(some[:index] + (number - count,) + some[index + 1:])
        told.append(some[:index] + (str(number),) + some[index + 1:])
        if number < 2:
            told.append(some[:index] + (bool(number),) + some[index + 1:])
    if len(some) > 1:
        told += [some[::-1], some[1:] + some[:1]]
    return told


class IsWayAndBar(unittest.TestCase):
    def test_of_all_choices_of_small_nets(self):
        for net, plain_ways, plain_bars in GONE_THROUGH:
            count = len(net[2])
            if count > 7:
                continue
            for length in range(count + 1):
                for some in itertools.combinations(range(count), length):
                    self.assertIs(is_way(net, some), some in plain_ways)
                    self.assertIs(is_bar(net, some), some in plain_bars)

    def test_of_large_nets_one_more_or_fewer(self):
        for net, plain_ways, plain_bars in GONE_THROUGH:
            for asked, told in ((is_way, plain_ways), (is_bar, plain_bars)):
                for some in told[:40]:
                    self.assertIs(asked(net, some), True)
                    for number in range(len(net[2])):
                        other = tuple(sorted(set(some) ^ {number}))
                        self.assertIs(asked(net, other), False)

    def test_spoilt(self):
        for net, plain_ways, plain_bars in GONE_THROUGH:
            for asked, told in ((is_way, plain_ways), (is_bar, plain_bars)):
                for some in told[:20]:
                    for thing in spoilt(some, len(net[2])):
                        self.assertIs(asked(net, thing), False, (net, thing))

    def test_true_is_no_number(self):
        net = (1, 3, ((0, 2, 0, 1), (1, 2, 0, 1)))
        self.assertIs(is_way(net, (0, 1)), True)
        self.assertIs(is_way(net, (0, True)), False)
        self.assertIs(is_way(net, (False, 1)), False)
        self.assertIs(is_bar(net, (1,)), True)
        self.assertIs(is_bar(net, (True,)), False)
        self.assertIs(is_bar(net, (False,)), False)

    def test_odd_things(self):
        for net in (LADDER, ALIKE, LOOSE_ENDS, APART, EMPTY):
            for thing in ODD_THINGS:
                before = copy.deepcopy(thing)
                self.assertIs(is_way(net, thing), False, thing)
                self.assertIs(is_bar(net, thing), False, thing)
                self.assertEqual(thing, before)

    def test_what_is_handed_in_is_not_kept(self):
        thing = [1]
        self.assertIs(is_way(LOOSE_ENDS, thing), False)
        self.assertIs(is_bar(LOOSE_ENDS, thing), False)
        self.assertEqual(thing, [1])
        thing.append(2)
        self.assertIs(is_way(LOOSE_ENDS, (1,)), True)
        self.assertIs(is_bar(LOOSE_ENDS, (1,)), True)


class Live(unittest.TestCase):
    def test_as_written(self):
        self.assertEqual(live_ways(LADDER), [(0, 3), (1, 4)])
        self.assertEqual(live_bars(LADDER), [(0, 1), (3, 4)])
        self.assertEqual(live_ways((1, 3, ((0, 2, 0, 1), (1, 2, 0, 0)))), [])
        self.assertEqual(live_bars((1, 2, ((0, 1, 0, 1), (0, 1, 0, 0)))), [])
        self.assertEqual(live_ways((1, 3, ((0, 2, 0, 1), (1, 2, 0, 1)))), [(0, 1)])
        self.assertEqual(live_bars(APART), [()])
        self.assertEqual(live_ways(APART), [])

    def test_against_all_settings(self):
        for net, plain_ways, plain_bars in GONE_THROUGH:
            shut = [set(plain_shut(net, setting)) for setting in plain_settings(net[0])]
            self.assertEqual(live_ways(net), [way for way in plain_ways if any(set(way) <= some for some in shut)])
            self.assertEqual(live_bars(net), [bar for bar in plain_bars if any(not set(bar) & some for some in shut)])


class AtASetting(unittest.TestCase):
    def test_as_written(self):
        self.assertEqual(way_at(LADDER, (1, 0, 0)), (0, 3))
        self.assertIsNone(bar_at(LADDER, (1, 0, 0)))
        self.assertEqual(bar_at(LADDER, (0, 0, 1)), (0, 1))
        self.assertIsNone(way_at(LADDER, (0, 0, 1)))
        self.assertEqual(bar_at(LADDER, (1, 1, 1)), (3, 4))
        self.assertEqual(bar_at(EMPTY, (0,)), ())
        self.assertIsNone(way_at(EMPTY, (0,)))
        self.assertEqual(way_at(ALIKE, (1, 0)), (0, 2))

    def test_first_of_each_setting(self):
        for net, plain_ways, plain_bars in GONE_THROUGH:
            for setting in plain_settings(net[0]):
                shut = set(plain_shut(net, setting))
                way = way_at(net, setting)
                bar = bar_at(net, setting)
                self.assertEqual(way, next((some for some in plain_ways if set(some) <= shut), None))
                self.assertEqual(bar, next((some for some in plain_bars if not set(some) & shut), None))
                self.assertEqual(way is None, bar is not None)
                self.assertEqual(way is not None, lets(net, setting))


class TheAskersOwn(unittest.TestCase):
    def test_changed_and_asked_again(self):
        for asked in (all_ways, all_bars, live_ways, live_bars):
            for net in (LADDER, ALIKE, APART):
                told = asked(net)
                first = list(told)
                self.assertIsNot(told, asked(net))
                told.append("more")
                self.assertEqual(asked(net), first)
                told.clear()
                self.assertEqual(asked(net), first)

    def test_one_net_asked_between_is_nothing_to_another(self):
        before = [all_ways(net) for net in NETS]
        self.assertEqual([all_ways(net) for net in reversed(NETS)], before[::-1])


class Beyond(unittest.TestCase):
    def test_a_net_somewhat_beyond_is_not_refused(self):
        net = (5, 8, tuple((a, b, 4, 1) for a, b in ((0, 2), (2, 3), (3, 4), (4, 5), (5, 6), (6, 7), (1, 7))) * 2
               + ((0, 7, 3, 0), (1, 5, 0, 1), (0, 1, 1, 1)))
        plain_ways, plain_bars = plain_choices(net)
        self.assertEqual(all_ways(net), plain_ways)
        self.assertEqual(all_bars(net), plain_bars)
        self.assertEqual(way_at(net, (0, 1, 0, 0, 0)), (16,))


if __name__ == "__main__":
    unittest.main()
