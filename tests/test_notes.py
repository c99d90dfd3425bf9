import copy
import inspect
import unittest

from contactnets import notes
from contactnets.nets import is_net
from contactnets.notes import bits_text, net_read, net_text
from tests.helper import CHAIN, EMPTY, LADDER, LARGE_NETS, NETS, ODD_THINGS
from tests.helper import deep, made_nets, only_of, plain_function, plain_settings, refused, thick

ASKED = NETS + LARGE_NETS + made_nets(60, 7, 16) + [thick(2, 16), (4, 7, ())]
SIGNS = "".join(chr(code) for code in range(ord(" "), ord("~") + 1))


def plain_text(net):
    text = str(net[0]) + " " + str(net[1]) + ":"
    for a, b, switch, on in net[2]:
        text += " " + str(a) + "-" + str(b) + "/" + str(switch) + {0: "-", 1: "+"}[on]
    return text


TEXTS = {plain_text(net): net for net in ASKED}


class Interface(unittest.TestCase):
    def test_arguments(self):
        wanted = {"net_text": ["net"], "bits_text": ["bits"], "net_read": ["text"]}
        for name, arguments in wanted.items():
            self.assertEqual(list(inspect.signature(getattr(notes, name)).parameters), arguments, name)


class Written(unittest.TestCase):
    def test_as_written(self):
        self.assertEqual(net_text((2, 3, ((0, 2, 0, 1), (1, 2, 1, 0)))), "2 3: 0-2/0+ 1-2/1-")
        self.assertEqual(net_text(EMPTY), "1 2:")
        self.assertEqual(net_text((4, 7, ())), "4 7:")
        self.assertEqual(net_text(LADDER), "3 4: 0-2/0+ 0-3/1+ 2-3/2+ 1-2/1- 1-3/0-")
        self.assertEqual(net_text(CHAIN), "4 7: 5-6/3+ 1-6/0+ 0-2/0+ 4-5/2+ 2-3/1- 3-4/2+")

    def test_all_nets(self):
        for net in ASKED:
            self.assertIs(type(net_text(net)), str)
            self.assertEqual(net_text(net), plain_text(net))

    def test_bits(self):
        self.assertEqual(bits_text((0,)), "0")
        self.assertEqual(bits_text((1, 0, 0, 1)), "1001")
        for switches in range(1, 5):
            for setting in plain_settings(switches):
                self.assertEqual(bits_text(setting), "".join(map(str, setting)))
        for net in ASKED:
            bits = plain_function(net)
            self.assertEqual(bits_text(bits), "".join(map(str, bits)))
            self.assertIs(type(bits_text(bits)), str)

    def test_somewhat_beyond_is_not_refused(self):
        net = (5, 11, ((0, 10, 4, 1),) * 17)
        self.assertEqual(net_text(net), plain_text(net))
        self.assertEqual(bits_text((0, 1) * 16), "01" * 16)
        refused(self, "BadNote", net_read, plain_text(net))


class Read(unittest.TestCase):
    def test_as_written(self):
        self.assertEqual(net_read("2 3: 0-2/0+ 1-2/1-"), (2, 3, ((0, 2, 0, 1), (1, 2, 1, 0))))
        self.assertEqual(net_read("1 2:"), EMPTY)
        self.assertEqual(net_read("4 7: 5-6/3-"), (4, 7, ((5, 6, 3, 0),)))

    def test_all_nets(self):
        for text, net in TEXTS.items():
            told = net_read(text)
            self.assertEqual(told, net)
            self.assertTrue(only_of(told, tuple, int))
            self.assertIs(is_net(told), True)
            self.assertEqual(net_read(text), told)

    def test_bounds(self):
        for switches in range(0, 10):
            for places in range(0, 10):
                text = f"{switches} {places}:"
                if 1 <= switches <= 4 and 2 <= places <= 7:
                    self.assertEqual(net_read(text), (switches, places, ()))
                else:
                    refused(self, "BadNote", net_read, text)

    def test_each_contact(self):
        for switches, places in ((1, 2), (2, 4), (4, 7)):
            for a in range(9):
                for b in range(9):
                    for switch in range(6):
                        for on, sign in enumerate("-+"):
                            text = f"{switches} {places}: {a}-{b}/{switch}{sign}"
                            if a < b < places and switch < switches:
                                self.assertEqual(net_read(text), (switches, places, ((a, b, switch, on),)))
                            else:
                                refused(self, "BadNote", net_read, text)

    def test_sixteen_and_seventeen_contacts(self):
        for count in range(1, 30):
            text = "1 2:" + " 0-1/0+" * count
            if count <= 16:
                self.assertEqual(net_read(text), (1, 2, ((0, 1, 0, 1),) * count))
            else:
                refused(self, "BadNote", net_read, text)

    def test_one_sign_otherwise(self):
        for text in ["1 2:", "2 3: 0-2/0+ 1-2/1-", plain_text(LADDER)] + [plain_text(net) for net in LARGE_NETS]:
            changed = [text[:index] + text[index + 1:] for index in range(len(text))]
            for index in range(len(text) + 1):
                changed += [text[:index] + sign + text[index:] for sign in SIGNS + "\n\t\r\x00\u0661\u00b2\u00a0"]
                changed += [text[:index] + sign + text[index + 1:] for sign in SIGNS + "\n\t\u0662\uff12"]
            for other in changed:
                self.either(other)

    def either(self, text):
        """Just what some net writes is read, and as that net."""
        try:
            net = net_read(text)
        except ValueError:
            refused(self, "BadNote", net_read, text)
            self.assertFalse(text in TEXTS)
        else:
            self.assertIs(is_net(net), True)
            self.assertEqual(plain_text(net), text)

    def test_noughts_ahead_and_signs(self):
        for text in ("01 2:", "1 02:", "00001 2:", "+1 2:", "1 +2:", "-1 2:", "1 -2:", "1 2: 00-1/0+", "1 2: 0-01/0+",
                     "1 2: 0-1/00+", "1 2: -0-1/0+", "1 2: 0--1/0+", "1 2: +0-1/0+", "10 2:", "1 20:", "1_0 2:",
                     "2 3: 0-2/01+", "1 2: 0-1/0++", "1 2: 0-1/0", "1 2: 0-1/+", "1 2: 0-1/0 +", "1 2: 0-1/0*"):
            refused(self, "BadNote", net_read, text)

    def test_blanks(self):
        for text in (" 1 2:", "1 2: ", "1  2:", "1 2 :", "1 2:  0-1/0+", "1 2: 0-1/0+ ", "1 2: 0-1/0+  0-1/0+",
                     "12:", "1 2:0-1/0+", "1 2: 0-1/0+0-1/0+", "1\t2:", "1 2:\n", "\n1 2:", "1 2: 0 -1/0+",
                     "1 2: 0- 1/0+", "1 2: 0-1 /0+", "1 2: 0-1/ 0+", " ", "  ", "1 ", " 2:", ": ", ":"):
            refused(self, "BadNote", net_read, text)

    def test_other_texts(self):
        for text in ("", "1", "2:", "1 2", "1 2;", "1:2:", "1 2::", "a b:", "1 2: a-b/c+", "1 2: 1-0/0+", "1 2: 0-0/0+",
                     "(1, 2, ())", "one two:", "1 2: 0-1/1+", "1 2: 0-2/0+", "1 2: 0-1/0+,0-1/0+", "net a 1 2:"):
            refused(self, "BadNote", net_read, text)

    def test_texts_of_many_signs(self):
        for text in ("1" * 400, " " * 400, "0" * 396 + "1 2:", "1 2:" + " " * 396, "1 " + "0" * 396 + "2:",
                     ("1 2:" + " 0-1/0+" * 57)[:400], "~" * 400, "1 2: 0-1/0+ " + "x" * 388, "1 2:" * 100,
                     "9" * 401, "1 2:" + " 0-1/0+" * 60, "9" * 5000):
            refused(self, "BadNote", net_read, text)

    def test_things_of_other_kinds(self):
        for thing in [thing for thing in ODD_THINGS if not isinstance(thing, str)] + [
                12, (), EMPTY, LADDER, ["1 2:"], ("1 2:",), ["1", "2:"], ("1", "2:"), {"1 2:": "1 2:"}, list("1 2:"),
                tuple("1 2:"), deep(30), [1, 2, []]]:
            before = copy.deepcopy(thing)
            refused(self, "BadNote", net_read, thing)
            self.assertEqual(thing, before)


if __name__ == "__main__":
    unittest.main()
