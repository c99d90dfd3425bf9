import inspect
import itertools
import unittest

from contactnets import made
from contactnets.made import about, bridged, cut, in_row, side_by_side
from contactnets.nets import is_net
from tests.helper import ALIKE, APART, EMPTY, LADDER, LARGE_NETS, LOOSE_ENDS, NETS, NO_NUMBERS
from tests.helper import fits, only_of, plain_about, plain_bridged, plain_cut, plain_function, plain_joins
from tests.helper import plain_row, plain_settings, plain_shut, plain_side, refused, thick


def sparse(places, switches=2):
    """A net of so many places with at most eight contacts: each place but the last is tied to the last one."""
    contacts = [(place, places - 1, place % switches, place // 2 % 2) for place in reversed(range(places - 1))]
    return (switches, places, tuple(contacts + [(0, 1, 0, 0)]))


PAIRS = [(sparse(p), sparse(q)) for p in range(2, 8) for q in range(2, 8)]
PAIRS += [((2, p, ()), sparse(q)) for p in range(2, 8) for q in range(2, 8)]
PAIRS += [(sparse(p), (2, q, ())) for p in range(2, 8) for q in range(2, 8)]
PAIRS += [(one, other) for one, other in itertools.product(NETS, repeat=2) if one[0] == other[0]]


class Interface(unittest.TestCase):
    def test_arguments(self):
        wanted = {"in_row": ["one", "other"], "side_by_side": ["one", "other"], "about": ["net"],
                  "cut": ["net", "number"], "bridged": ["net", "number"]}
        for name, arguments in wanted.items():
            self.assertEqual(list(inspect.signature(getattr(made, name)).parameters), arguments, name)


class RowAndSide(unittest.TestCase):
    def test_row_as_written(self):
        one = (2, 3, ((0, 2, 0, 1), (1, 2, 1, 0), (0, 1, 0, 0)))
        other = (2, 4, ((0, 3, 1, 1), (1, 2, 0, 1), (2, 3, 1, 0), (0, 1, 1, 1), (1, 3, 0, 0)))
        self.assertEqual(in_row(one, other), (2, 6, ((0, 2, 0, 1), (2, 5, 1, 0), (0, 5, 0, 0), (4, 5, 1, 1),
                                                     (1, 3, 0, 1), (3, 4, 1, 0), (1, 5, 1, 1), (1, 4, 0, 0))))
        self.assertEqual(in_row(other, one), (2, 6, ((0, 3, 1, 1), (2, 5, 0, 1), (2, 3, 1, 0), (0, 5, 1, 1),
                                                     (3, 5, 0, 0), (4, 5, 0, 1), (1, 4, 1, 0), (1, 5, 0, 0))))

    def test_side_as_written(self):
        one = (2, 3, ((0, 2, 0, 1), (1, 2, 1, 0)))
        other = (2, 4, ((0, 3, 1, 1), (1, 2, 0, 1), (2, 3, 1, 0), (0, 1, 1, 1)))
        self.assertEqual(side_by_side(one, other), (2, 5, ((0, 2, 0, 1), (1, 2, 1, 0), (0, 4, 1, 1), (1, 3, 0, 1),
                                                           (3, 4, 1, 0), (0, 1, 1, 1))))
        self.assertEqual(side_by_side(other, one), (2, 5, ((0, 3, 1, 1), (1, 2, 0, 1), (2, 3, 1, 0), (0, 1, 1, 1),
                                                           (0, 4, 0, 1), (1, 4, 1, 0))))

    def test_two_places_and_no_contacts(self):
        self.assertEqual(in_row(EMPTY, EMPTY), (1, 3, ()))
        self.assertEqual(side_by_side(EMPTY, EMPTY), EMPTY)
        self.assertEqual(in_row((1, 2, ((0, 1, 0, 1),)), EMPTY), (1, 3, ((0, 2, 0, 1),)))
        self.assertEqual(in_row(EMPTY, (1, 2, ((0, 1, 0, 1),))), (1, 3, ((1, 2, 0, 1),)))

    def test_one_net_twice(self):
        net = (1, 3, ((0, 2, 0, 1), (1, 2, 0, 0)))
        self.assertEqual(in_row(net, net), (1, 5, ((0, 2, 0, 1), (2, 4, 0, 0), (3, 4, 0, 1), (1, 3, 0, 0))))
        self.assertEqual(side_by_side(net, net), (1, 4, ((0, 2, 0, 1), (1, 2, 0, 0), (0, 3, 0, 1), (1, 3, 0, 0))))

    def test_all_pairs(self):
        told = {"row": 0, "side": 0, "refused": 0}
        for one, other in PAIRS:
            for kind, asked, plain in (("row", in_row, plain_row), ("side", side_by_side, plain_side)):
                wanted = plain(one, other)
                if not fits(wanted):
                    refused(self, "TooMany", asked, one, other)
                    told["refused"] += 1
                    continue
                told[kind] += 1
                answer = asked(one, other)
                self.assertEqual(answer, wanted)
                self.assertIs(is_net(answer), True)
                self.assertTrue(only_of(answer, tuple, int))
        self.assertTrue(min(told.values()) > 100, told)

    def test_too_many_places(self):
        for p, q in itertools.product(range(2, 8), repeat=2):
            for asked, places in ((in_row, p + q - 1), (side_by_side, p + q - 2)):
                if places <= 7:
                    self.assertEqual(asked((1, p, ()), (1, q, ())), (1, places, ()))
                else:
                    refused(self, "TooMany", asked, (1, p, ()), (1, q, ()))

    def test_too_many_contacts(self):
        for asked in (in_row, side_by_side):
            for count in range(17):
                self.assertEqual(len(asked(thick(2, count), thick(3, 16 - count))[2]), 16)
                if count > 0:
                    refused(self, "TooMany", asked, thick(2, count), thick(3, 17 - count))
            refused(self, "TooMany", asked, thick(2, 16), thick(2, 16))

    def test_too_many_of_both(self):
        for asked in (in_row, side_by_side):
            refused(self, "TooMany", asked, thick(7, 16), thick(7, 16))

    def test_functions(self):
        for one, other in PAIRS:
            bits = list(zip(plain_function(one), plain_function(other)))
            if fits(plain_row(one, other)):
                self.assertEqual(plain_function(in_row(one, other)), tuple(a & b for a, b in bits))
            if fits(plain_side(one, other)):
                self.assertEqual(plain_function(side_by_side(one, other)), tuple(a | b for a, b in bits))


class About(unittest.TestCase):
    def test_as_written(self):
        self.assertEqual(about(LADDER), (3, 4, ((1, 2, 0, 1), (1, 3, 1, 1), (2, 3, 2, 1), (0, 2, 1, 0), (0, 3, 0, 0))))
        self.assertEqual(about((1, 2, ((0, 1, 0, 1), (0, 1, 0, 0)))), (1, 2, ((0, 1, 0, 1), (0, 1, 0, 0))))
        self.assertEqual(about(EMPTY), EMPTY)

    def test_all_nets(self):
        for net in NETS + LARGE_NETS:
            told = about(net)
            self.assertEqual(told, plain_about(net))
            self.assertIs(is_net(told), True)
            self.assertTrue(only_of(told, tuple, int))
            self.assertEqual(about(told), net)
            self.assertEqual(plain_function(told), plain_function(net))


class Cut(unittest.TestCase):
    def test_as_written(self):
        self.assertEqual(cut(LADDER, 2), (3, 4, ((0, 2, 0, 1), (0, 3, 1, 1), (1, 2, 1, 0), (1, 3, 0, 0))))
        self.assertEqual(cut((1, 2, ((0, 1, 0, 1),)), 0), EMPTY)
        self.assertEqual(cut(ALIKE, 1), (2, 3, ((0, 2, 0, 1), (1, 2, 1, 0), (1, 2, 1, 0))))

    def test_each_contact_of_all_nets(self):
        for net in NETS + LARGE_NETS:
            for number in range(len(net[2])):
                told = cut(net, number)
                self.assertEqual(told, plain_cut(net, number))
                self.assertIs(is_net(told), True)


class Bridged(unittest.TestCase):
    def test_as_written(self):
        self.assertEqual(bridged(LADDER, 0), (3, 3, ((0, 2, 1, 1), (0, 2, 2, 1), (0, 1, 1, 0), (1, 2, 0, 0))))
        self.assertEqual(bridged(LADDER, 1), (3, 3, ((0, 2, 0, 1), (0, 2, 2, 1), (1, 2, 1, 0), (0, 1, 0, 0))))
        self.assertEqual(bridged(LADDER, 2), (3, 3, ((0, 2, 0, 1), (0, 2, 1, 1), (1, 2, 1, 0), (1, 2, 0, 0))))
        self.assertEqual(bridged(LADDER, 3), (3, 3, ((0, 1, 0, 1), (0, 2, 1, 1), (1, 2, 2, 1), (1, 2, 0, 0))))

    def test_contacts_alike_are_left_out_too(self):
        self.assertEqual(bridged(ALIKE, 0), (2, 2, ((0, 1, 1, 0), (0, 1, 1, 0))))
        self.assertEqual(bridged(ALIKE, 3), (2, 2, ((0, 1, 0, 1), (0, 1, 0, 1))))
        net = (2, 3, ((1, 2, 0, 1), (1, 2, 1, 0), (0, 1, 0, 0)))
        self.assertEqual(bridged(net, 1), (2, 2, ((0, 1, 0, 0),)))

    def test_places_above_and_between(self):
        net = (1, 7, ((2, 4, 0, 1), (3, 4, 0, 0), (4, 5, 0, 1), (5, 6, 0, 0), (1, 4, 0, 1), (0, 6, 0, 0)))
        self.assertEqual(bridged(net, 0),
                         (1, 6, ((2, 3, 0, 0), (2, 4, 0, 1), (4, 5, 0, 0), (1, 2, 0, 1), (0, 5, 0, 0))))
        self.assertEqual(bridged((1, 3, ((0, 2, 0, 1),)), 0), EMPTY)

    def test_each_contact_of_all_nets(self):
        for net in NETS + LARGE_NETS:
            for number, (a, b, _, _) in enumerate(net[2]):
                if (a, b) == (0, 1):
                    refused(self, "NoBridge", bridged, net, number)
                    continue
                told = bridged(net, number)
                self.assertEqual(told, plain_bridged(net, number))
                self.assertIs(is_net(told), True)
                self.assertTrue(only_of(told, tuple, int))

    def test_no_bridge(self):
        for count in (1, 2, 16):
            for number in range(count):
                refused(self, "NoBridge", bridged, thick(3, count), number)
        refused(self, "NoBridge", bridged, LOOSE_ENDS, 1)


class NoContact(unittest.TestCase):
    def test_other_things(self):
        for net in (LADDER, ALIKE, APART, EMPTY, thick(2, 1), thick(2, 16)):
            for number in NO_NUMBERS:
                refused(self, "NoContact", cut, net, number)
                refused(self, "NoContact", bridged, net, number)

    def test_as_great_as_the_number_of_contacts(self):
        for net in NETS + LARGE_NETS:
            for number in (len(net[2]), len(net[2]) + 1, 16, -len(net[2]) - 1, -1):
                refused(self, "NoContact", cut, net, number)
                refused(self, "NoContact", bridged, net, number)

    def test_what_is_handed_in_stays(self):
        number = [0]
        refused(self, "NoContact", cut, LADDER, number)
        refused(self, "NoContact", bridged, LADDER, number)
        self.assertEqual(number, [0])


class AtEachSetting(unittest.TestCase):
    def test_cut_and_bridged(self):
        for net in NETS + LARGE_NETS:
            for number, contact in enumerate(net[2]):
                for setting in plain_settings(net[0]):
                    shut = plain_shut(net, setting)
                    if number not in shut:
                        other = cut(net, number)
                    elif contact[:2] != (0, 1):
                        other = bridged(net, number)
                    else:
                        continue
                    self.assertEqual(plain_joins(other, plain_shut(other, setting)), plain_joins(net, shut))


if __name__ == "__main__":
    unittest.main()
