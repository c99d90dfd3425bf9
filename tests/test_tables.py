import copy
import inspect
import itertools
import unittest

from contactnets import tables
from contactnets.tables import closed, come_to, is_table, is_taking, left_at_last, table_of, taken_out
from tests.helper import ALIKE, APART, CHAIN, EMPTY, LADDER, LARGE_NETS, NETS, NO_NUMBERS, ODD_THINGS
from tests.helper import deep, made_nets, only_of, otherwise, plain_function, plain_settings, plain_shut, refused

FULL = (1, 1)
NONE = (0, 0)
ONE_TIE = ((FULL, NONE, (0, 1)), (NONE, FULL, NONE), ((0, 1), NONE, FULL))
OTHER_TIE = ((FULL, NONE, NONE), (NONE, FULL, (0, 1)), (NONE, (0, 1), FULL))
ALL_NETS = NETS + LARGE_NETS
SMALL_NETS = [net for net in NETS if net[1] <= 5][:20]


def plain_table(net):
    """For two places the bit of a setting is asked of the contacts that are shut there."""
    rows = []
    for a in range(net[1]):
        row = []
        for b in range(net[1]):
            pairs = [{net[2][number][:2] for number in plain_shut(net, setting)} for setting in plain_settings(net[0])]
            row.append(tuple(int(a == b or (a, b) in shut or (b, a) in shut) for shut in pairs))
        rows.append(tuple(row))
    return tuple(rows)


def plain_out(table, place):
    others = [other for other in range(len(table)) if other != place]
    rows = []
    for a in others:
        row = []
        for b in others:
            bits = zip(table[a][b], table[a][place], table[place][b])
            row.append(tuple(int(old == 1 or (there == 1 and on == 1)) for old, there, on in bits))
        rows.append(tuple(row))
    return tuple(rows)


def plain_come_to(one, other):
    places = range(len(one))
    size = len(one[0][0])
    return tuple(tuple(tuple(int(any(one[a][c][bit] and other[c][b][bit] for c in places)) for bit in range(size))
                       for b in places) for a in places)


def is_even(rows):
    return all(rows[a][b] == rows[b][a] for a in range(len(rows)) for b in range(len(rows)))


def plain_taking(table, order):
    told = [table]
    for place in order:
        told.append(plain_out(told[-1], place))
    return tuple(told)


def orders(places):
    """Each way to name places from 2 on, one after the other, until two are left."""
    return list(itertools.product(*[range(2, left) for left in range(places, 2, -1)]))


def with_bits(table, a, b, bits):
    """The table with other bits for a and b, that way round alone."""
    rows = [list(row) for row in table]
    rows[a][b] = bits
    return tuple(tuple(row) for row in rows)


def exchanged(bits):
    return (1 - bits[0],) + bits[1:]


TABLES = [(net[0], plain_table(net)) for net in ALL_NETS]


class Interface(unittest.TestCase):
    def test_arguments(self):
        wanted = {"is_table": ["switches", "thing"], "table_of": ["net"], "taken_out": ["table", "place"],
                  "is_taking": ["table", "thing"], "left_at_last": ["table"], "come_to": ["one", "other"],
                  "closed": ["table"]}
        for name, arguments in wanted.items():
            self.assertEqual(list(inspect.signature(getattr(tables, name)).parameters), arguments, name)


class TableOf(unittest.TestCase):
    def test_as_written(self):
        self.assertEqual(table_of(EMPTY), ((FULL, NONE), (NONE, FULL)))
        self.assertEqual(table_of((1, 3, ((0, 2, 0, 1),))), ONE_TIE)
        self.assertEqual(table_of((1, 2, ((0, 1, 0, 1), (0, 1, 0, 0)))), ((FULL, FULL), (FULL, FULL)))
        self.assertEqual(table_of((2, 2, ((0, 1, 0, 1), (0, 1, 1, 1)))),
                         (((1, 1, 1, 1), (0, 1, 1, 1)), ((0, 1, 1, 1), (1, 1, 1, 1))))

    def test_of_all_nets(self):
        for net in ALL_NETS:
            told = table_of(net)
            self.assertEqual(told, plain_table(net))
            self.assertTrue(only_of(told, tuple, int))
            self.assertIs(is_table(net[0], told), True)


class IsTable(unittest.TestCase):
    def yes(self, switches, thing):
        self.assertIs(is_table(switches, thing), True)

    def no(self, switches, thing):
        self.assertIs(is_table(switches, thing), False, thing)

    def test_of_tables(self):
        for switches, table in TABLES:
            self.yes(switches, table)
            for other in range(1, 5):
                if other != switches:
                    self.no(other, table)

    def test_two_to_seven_places(self):
        for places in range(1, 10):
            for bits in (NONE, (0, 1), FULL):
                rows = tuple(tuple(FULL if a == b else bits for b in range(places)) for a in range(places))
                self.assertIs(is_table(1, rows), 2 <= places <= 7)
        self.no(1, ())

    def test_a_bit_otherwise(self):
        for switches, table in TABLES:
            for a, b in itertools.product(range(len(table)), repeat=2):
                bits = table[a][b]
                once = with_bits(table, a, b, exchanged(bits))
                self.no(switches, once)
                if a != b:
                    self.yes(switches, with_bits(once, b, a, exchanged(bits)))
                self.no(switches, with_bits(table, a, b, bits[:-1] + (1 - bits[-1],)))

    def test_the_same_fault_both_ways(self):
        for bits in ((0, 2), (0, -1), (0, True), (False, 0), (0,), (0, 0, 0), (), [0, 0], "00", None, 0, (None, 0)):
            self.no(1, with_bits(with_bits(ONE_TIE, 0, 1, bits), 1, 0, bits))
            self.no(1, with_bits(ONE_TIE, 2, 2, bits))
        self.no(1, with_bits(ONE_TIE, 0, 0, (True, 1)))
        self.no(1, with_bits(ONE_TIE, 0, 0, (1, True)))

    def test_one_thing_otherwise(self):
        for net in ((1, 2, ((0, 1, 0, 1),)), (1, 3, ((0, 2, 0, 1), (1, 2, 0, 0)))):
            table = plain_table(net)
            for thing in otherwise(table):
                self.no(1, thing)

    def test_rows_of_other_lengths_and_kinds(self):
        for switches, table in TABLES[:12]:
            self.no(switches, list(table))
            self.no(switches, table[:-1])
            self.no(switches, table + table[-1:])
            self.no(switches, tuple(row[:-1] for row in table))
            self.no(switches, tuple(list(row) for row in table))
            self.no(switches, dict(enumerate(table)))

    def test_odd_things(self):
        for thing in ODD_THINGS + [(), LADDER, ((), ()), ([], []), ("", ""), ((0, 1), (1, 0)), deep(30)]:
            before = copy.deepcopy(thing)
            for switches in range(1, 5):
                self.no(switches, thing)
            self.assertEqual(thing, before)


class TakenOut(unittest.TestCase):
    def test_as_written(self):
        table = table_of((1, 3, ((0, 2, 0, 1), (1, 2, 0, 1))))
        self.assertEqual(taken_out(table, 2), ((FULL, (0, 1)), ((0, 1), FULL)))
        table = table_of((1, 4, ((0, 2, 0, 1), (2, 3, 0, 0), (1, 3, 0, 1))))
        self.assertEqual(taken_out(table, 2), ((FULL, NONE, NONE), (NONE, FULL, (0, 1)), (NONE, (0, 1), FULL)))
        self.assertEqual(taken_out(table, 3), ONE_TIE)

    def test_each_place_of_all_tables(self):
        for switches, table in TABLES:
            for place in range(2, len(table)):
                told = taken_out(table, place)
                self.assertEqual(told, plain_out(table, place))
                self.assertIs(is_table(switches, told), True)
                self.assertTrue(only_of(told, tuple, int))

    def test_no_place(self):
        for _, table in TABLES:
            for place in [0, 1, len(table), len(table) + 1, 7, -len(table), 1 - len(table)] + NO_NUMBERS:
                refused(self, "NoPlace", taken_out, table, place)

    def test_what_is_handed_in_stays(self):
        place = [2]
        refused(self, "NoPlace", taken_out, ONE_TIE, place)
        self.assertEqual(place, [2])


class IsTaking(unittest.TestCase):
    def yes(self, table, thing):
        self.assertIs(is_taking(table, thing), True)

    def no(self, table, thing):
        self.assertIs(is_taking(table, thing), False, thing)

    def test_two_places(self):
        table = table_of(EMPTY)
        self.yes(table, (table,))
        self.no(table, ())
        self.no(table, (table, table))
        self.no(table, table)
        self.no(table, [table])
        self.no(table, (table_of((1, 2, ((0, 1, 0, 1),))),))

    def test_in_each_order(self):
        for net in SMALL_NETS + [CHAIN, LARGE_NETS[1]]:
            table = plain_table(net)
            for order in orders(net[1]):
                self.yes(table, plain_taking(table, order))

    def test_parts_and_changes_of_takings(self):
        for net in SMALL_NETS + [CHAIN]:
            table = plain_table(net)
            for order in orders(net[1])[::7]:
                taking = plain_taking(table, order)
                self.no(table, list(taking))
                self.no(table, taking + taking[-1:])
                self.no(table, taking[:1] + taking)
                self.no(table, (taking,))
                if len(taking) > 1:
                    self.no(table, taking[:-1])
                    self.no(table, taking[1:])
                    self.no(table, taking[::-1])
                if len(taking) > 2:
                    self.no(table, taking[:1] + taking[2:])

    def test_a_bit_otherwise(self):
        for net in SMALL_NETS:
            table = plain_table(net)
            taking = plain_taking(table, orders(net[1])[-1])
            for number, part in enumerate(taking):
                for a, b in itertools.combinations(range(len(part)), 2):
                    bits = exchanged(part[a][b])
                    other = with_bits(with_bits(part, a, b, bits), b, a, bits)
                    thing = taking[:number] + (other,) + taking[number + 1:]
                    right = number > 0 and all(
                        any(plain_out(ahead, place) == later for place in range(2, len(ahead)))
                        for ahead, later in zip(thing, thing[1:]))
                    self.assertIs(is_taking(table, thing), right)
                    self.no(table, taking[:number] + (with_bits(part, a, b, bits),) + taking[number + 1:])

    def test_one_thing_otherwise(self):
        taking = plain_taking(ONE_TIE, (2,))
        self.yes(ONE_TIE, taking)
        for thing in otherwise(taking):
            self.no(ONE_TIE, thing)

    def test_true_is_no_bit(self):
        table = plain_table((1, 3, ((0, 2, 0, 1), (1, 2, 0, 1))))
        first, last = plain_taking(table, (2,))
        self.yes(table, (first, last))
        self.no(table, (with_bits(first, 0, 0, (True, 1)), last))
        self.no(table, (first, with_bits(last, 1, 1, (1, True))))
        self.no(table, (first, with_bits(with_bits(last, 0, 1, (0, True)), 1, 0, (0, True))))

    def test_only_two_places_left_are_the_last(self):
        table = plain_table(CHAIN)
        taking = plain_taking(table, (2, 2, 2, 2, 2))
        for count in range(1, 6):
            self.no(table, taking[:count])
        self.yes(table, taking)

    def test_of_another_table(self):
        one = plain_table((1, 3, ((0, 2, 0, 1),)))
        other = plain_table((1, 3, ((1, 2, 0, 1),)))
        self.assertEqual(plain_out(one, 2), plain_out(other, 2))
        self.yes(one, plain_taking(one, (2,)))
        self.no(one, plain_taking(other, (2,)))
        self.no(one, plain_taking(plain_table((2, 3, ((0, 2, 0, 1),))), (2,)))

    def test_places_0_and_1_are_not_taken_out(self):
        table = plain_table((2, 3, ((0, 2, 0, 1), (1, 2, 1, 0), (0, 1, 0, 0))))
        self.no(table, (table, plain_out(table, 0)))
        self.no(table, (table, plain_out(table, 1)))
        self.yes(table, (table, plain_out(table, 2)))

    def test_odd_things(self):
        for thing in ODD_THINGS + [(), ((),), ((), ()), ([],), ("",), tuple(range(9000)), (ONE_TIE,), (None, ONE_TIE)]:
            before = copy.deepcopy(thing)
            self.no(ONE_TIE, thing)
            self.no(table_of(LADDER), thing)
            self.assertEqual(thing, before)


class LeftAtLast(unittest.TestCase):
    def test_as_written(self):
        self.assertEqual(left_at_last(table_of(EMPTY)), NONE)
        self.assertEqual(left_at_last(table_of((1, 2, ((0, 1, 0, 1),)))), (0, 1))
        self.assertEqual(left_at_last(ONE_TIE), NONE)
        self.assertEqual(left_at_last(table_of(APART)), (0, 0, 0, 0))

    def test_of_all_nets(self):
        for net in ALL_NETS:
            told = left_at_last(plain_table(net))
            self.assertEqual(told, plain_function(net))
            self.assertTrue(only_of(told, tuple, int))

    def test_whatever_the_order(self):
        for net in SMALL_NETS + [CHAIN]:
            table = plain_table(net)
            for order in orders(net[1])[::5]:
                self.assertEqual(plain_taking(table, order)[-1][0][1], left_at_last(table))


class ComeTo(unittest.TestCase):
    def test_as_written(self):
        chain = table_of((1, 3, ((0, 2, 0, 1), (1, 2, 0, 1))))
        self.assertEqual(come_to(chain, chain), ((FULL, (0, 1), (0, 1)), ((0, 1), FULL, (0, 1)),
                                                 ((0, 1), (0, 1), FULL)))
        self.assertEqual(come_to(ONE_TIE, ONE_TIE), ONE_TIE)

    def test_no_table(self):
        refused(self, "NoTable", come_to, ONE_TIE, OTHER_TIE)
        refused(self, "NoTable", come_to, OTHER_TIE, ONE_TIE)

    def test_both_ways(self):
        told = {"yes": 0, "no": 0}
        nets = [(2, places, net[2]) for places in (2, 3, 4) for net in ALL_NETS + made_nets(120, 4, 5)
                if net[:2] == (2, places)]
        for one, other in itertools.product(nets, repeat=2):
            if one[1] != other[1]:
                continue
            first, second = plain_table(one), plain_table(other)
            wanted = plain_come_to(first, second)
            if is_even(wanted):
                told["yes"] += 1
                self.assertEqual(come_to(first, second), wanted)
                self.assertIs(is_table(2, wanted), True)
            else:
                told["no"] += 1
                refused(self, "NoTable", come_to, first, second)
        self.assertTrue(min(told.values()) > 20, told)

    def test_a_table_and_itself(self):
        for switches, table in TABLES:
            told = come_to(table, table)
            self.assertEqual(told, plain_come_to(table, table))
            self.assertIs(is_table(switches, told), True)
            self.assertTrue(only_of(told, tuple, int))

    def test_a_table_and_one_without_ties(self):
        for switches, table in TABLES:
            loose = plain_table((switches, len(table), ()))
            self.assertEqual(come_to(table, loose), table)
            self.assertEqual(come_to(loose, table), table)


def plain_closed(net):
    """At each setting the places bear marks, and a shut contact gives both ends one mark."""
    columns = []
    for setting in plain_settings(net[0]):
        marks = list(range(net[1]))
        for number in plain_shut(net, setting):
            a, b = net[2][number][:2]
            marks = [marks[b] if mark == marks[a] else mark for mark in marks]
        columns.append(marks)
    return tuple(tuple(tuple(int(marks[a] == marks[b]) for marks in columns) for b in range(net[1]))
                 for a in range(net[1]))


class Closed(unittest.TestCase):
    def test_as_written(self):
        self.assertEqual(closed(ONE_TIE), ONE_TIE)
        self.assertEqual(closed(table_of(ALIKE))[0][1], (0, 0, 1, 0))
        self.assertEqual(closed(table_of(CHAIN))[0][1], plain_function(CHAIN))

    def test_of_all_nets(self):
        for net in ALL_NETS:
            told = closed(plain_table(net))
            self.assertEqual(told, plain_closed(net))
            self.assertEqual(told[0][1], plain_function(net))
            self.assertIs(is_table(net[0], told), True)
            self.assertTrue(only_of(told, tuple, int))
            self.assertEqual(closed(told), told)
            self.assertEqual(come_to(told, told), told)


if __name__ == "__main__":
    unittest.main()
