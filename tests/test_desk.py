import copy
import inspect
import re
import unittest

from contactnets import errors
from contactnets.desk import Desk
from contactnets.fewest import fewest
from contactnets.notes import net_read
from contactnets.ways import all_bars, all_ways
from tests.helper import ALIKE, APART, CHAIN, DENSE, EMPTY, LADDER, ODD_THINGS
from tests.helper import deep, fits, fixed_row, made_nets, plain_about, plain_bridged, plain_cut, plain_function
from tests.helper import plain_pieces, plain_row, plain_settings, plain_shut, plain_side, plain_trimmed, refused
from tests.test_notes import plain_text

FORMS = {"net": "N TEXT", "nets": "", "show": "A", "function": "A", "lets": "A S", "shut": "A S", "pieces": "A S",
         "row": "A B N", "side": "A B N", "about": "A N", "cut": "A C N", "bridge": "A C N", "trim": "A N",
         "alike": "A B", "fewest": "A", "ways": "A", "bars": "A"}
WORDS = {"N": "[a-z]{1,8}", "A": "[a-z]{1,8}", "B": "[a-z]{1,8}", "S": "[01]{1,4}", "C": "[0-9]|1[0-5]", "TEXT": ".*"}


def bits(some):
    return "".join(str(bit) for bit in some)


def plain_parts(line):
    """The words of a line by their letters in the document, None where there is no such line."""
    for verb, form in FORMS.items():
        pattern = " ".join([verb] + [f"(?P<{part}>{WORDS[part]})" for part in form.split()])
        found = re.fullmatch(pattern, line) if isinstance(line, str) else None
        if found:
            return verb, found.groupdict()
    return None, {}


def plain_made(verb, one, other, number):
    """The net that is made, or the name of the refusal."""
    if verb in ("row", "side"):
        net = plain_row(one, other) if verb == "row" else plain_side(one, other)
        return net if fits(net) else "TooMany"
    if verb in ("cut", "bridge"):
        if number >= len(one[2]):
            return "NoContact"
        if verb == "cut":
            return plain_cut(one, number)
        return "NoBridge" if one[2][number][:2] == (0, 1) else plain_bridged(one, number)
    return plain_about(one) if verb == "about" else plain_trimmed(one)


def plain_told(verb, net, other, setting):
    if verb == "alike":
        unlike = [at for at, one, two in zip(plain_settings(net[0]), plain_function(net), plain_function(other))
                  if one != two]
        return bits(unlike[0]) if unlike else "same"
    if verb == "lets":
        return "yes" if any({0, 1} <= set(piece) for piece in plain_pieces(net, setting)) else "no"
    if verb == "shut":
        return " ".join(map(str, plain_shut(net, setting))) or "none"
    if verb == "pieces":
        return str(len(plain_pieces(net, setting)))
    if verb == "fewest":
        return "TooMany" if net[0] == 4 else str(fewest(plain_function(net)))
    return {"show": lambda: plain_text(net), "function": lambda: bits(plain_function(net)),
            "ways": lambda: str(len(all_ways(net))), "bars": lambda: str(len(all_bars(net)))}[verb]()


class PlainDesk:
    """The document's words once more: an answer, or the name of a refusal."""

    def __init__(self):
        self.nets = {}

    def say(self, line):
        verb, parts = plain_parts(line)
        if verb is None:
            return "BadNote"
        if verb == "nets":
            return " ".join(sorted(self.nets))
        if verb == "net":
            return self.keep(parts["N"], self.read(parts["TEXT"]))
        if any(parts[name] not in self.nets for name in ("A", "B") if name in parts):
            return "NoName"
        one = self.nets[parts["A"]]
        other = self.nets[parts.get("B", parts["A"])]
        setting = tuple(map(int, parts.get("S", "0" * one[0])))
        if len(setting) != one[0] or one[0] != other[0]:
            return "BadNote"
        if "N" in parts:
            return self.keep(parts["N"], plain_made(verb, one, other, int(parts.get("C", 0))))
        return plain_told(verb, one, other, setting)

    def read(self, text):
        try:
            return net_read(text)
        except errors.BadNote:
            return "BadNote"

    def keep(self, name, net):
        if isinstance(net, str):
            return net
        self.nets[name] = net
        return "ok"


REFUSED = ("BadNote", "NoName", "TooMany", "NoContact", "NoBridge")


def desk_with(**nets):
    desk = Desk()
    for name, net in nets.items():
        desk.say(f"net {name} {plain_text(net)}")
    return desk


def all_kept(desk):
    return [(name, desk.say(f"show {name}")) for name in desk.say("nets").split()]


class DeskCase(unittest.TestCase):
    def answers(self, desk, *pairs):
        for line, wanted in pairs:
            told = desk.say(line)
            self.assertIs(type(told), str, line)
            self.assertEqual(told, wanted, line)

    def refuses(self, desk, kind, *lines):
        before = all_kept(desk)
        for line in lines:
            refused(self, kind, desk.say, line)
            self.assertEqual(all_kept(desk), before, line)


class Interface(unittest.TestCase):
    def test_arguments(self):
        self.assertEqual(list(inspect.signature(Desk).parameters), [])
        self.assertEqual(list(inspect.signature(Desk.say).parameters), ["self", "line"])


class Answers(DeskCase):
    def test_net_nets_and_show(self):
        self.answers(Desk(), ("nets", ""), ("net b 2 3: 0-2/0+ 1-2/1-", "ok"), ("nets", "b"), ("net a 1 2:", "ok"),
                     ("net abcdefgh 4 7:", "ok"), ("net ab 1 2: 0-1/0+", "ok"), ("nets", "a ab abcdefgh b"),
                     ("show b", "2 3: 0-2/0+ 1-2/1-"), ("show a", "1 2:"), ("show abcdefgh", "4 7:"),
                     ("net a 3 2:", "ok"), ("show a", "3 2:"), ("nets", "a ab abcdefgh b"),
                     ("show ab", "1 2: 0-1/0+"))

    def test_verbs_are_names_too(self):
        desk = Desk()
        self.answers(desk, ("net net 1 2:", "ok"), ("net nets 1 2: 0-1/0+", "ok"), ("net show 1 3:", "ok"),
                     ("show net", "1 2:"), ("show show", "1 3:"), ("show nets", "1 2: 0-1/0+"),
                     ("row net show row", "ok"), ("nets", "net nets row show"))
        self.refuses(desk, "NoName", "function function")

    def test_of_one_net(self):
        desk = desk_with(l=LADDER, e=EMPTY, c=CHAIN, a=ALIKE, d=DENSE)
        self.answers(desk, ("function l", "00111100"), ("function e", "00"), ("function c", "0" * 11 + "10000"),
                     ("function a", "0010"), ("fewest l", "4"), ("fewest a", "2"), ("fewest e", "2"),
                     ("ways l", "4"), ("bars l", "4"), ("ways e", "0"), ("bars e", "1"), ("ways c", "1"),
                     ("bars c", "6"), ("ways a", "4"), ("bars a", "2"))
        self.refuses(desk, "TooMany", "fewest c", "fewest d")

    def test_at_a_setting(self):
        desk = desk_with(l=LADDER, e=EMPTY, c=CHAIN, a=ALIKE, p=APART)
        self.answers(desk, ("lets l 100", "yes"), ("lets l 110", "no"), ("lets e 0", "no"), ("lets c 1011", "yes"),
                     ("lets c 1111", "no"), ("shut l 100", "0 3"), ("shut l 111", "0 1 2"), ("shut e 1", "none"),
                     ("shut a 01", "none"), ("shut a 10", "0 1 2 3"), ("pieces l 111", "2"), ("pieces e 0", "2"),
                     ("pieces p 11", "3"), ("pieces a 01", "3"), ("pieces c 1011", "1"))

    def test_numbers_of_two_figures(self):
        desk = Desk()
        self.answers(desk, ("net t 1 2:" + " 0-1/0+" * 16, "ok"), ("shut t 1", " ".join(map(str, range(16)))),
                     ("ways t", "16"), ("bars t", "1"), ("cut t 15 u", "ok"), ("ways u", "15"))

    def test_made_nets(self):
        desk = Desk()
        self.answers(desk, ("net a 2 3: 0-2/0+ 1-2/1-", "ok"), ("net b 2 2: 0-1/1+", "ok"), ("row a b c", "ok"),
                     ("show c", "2 4: 0-2/0+ 2-3/1- 1-3/1+"), ("row b a c", "ok"),
                     ("show c", "2 4: 0-3/1+ 2-3/0+ 1-2/1-"), ("side a b d", "ok"),
                     ("show d", "2 3: 0-2/0+ 1-2/1- 0-1/1+"), ("about a e", "ok"), ("show e", "2 3: 1-2/0+ 0-2/1-"),
                     ("cut a 0 f", "ok"), ("show f", "2 3: 1-2/1-"), ("cut a 1 f", "ok"), ("show f", "2 3: 0-2/0+"),
                     ("bridge a 0 g", "ok"), ("show g", "2 2: 0-1/1-"), ("bridge a 1 g", "ok"),
                     ("show g", "2 2: 0-1/0+"), ("net h 1 2: 0-1/0+ 0-1/0+", "ok"), ("trim h i", "ok"),
                     ("show i", "1 2: 0-1/0+"), ("show h", "1 2: 0-1/0+ 0-1/0+"), ("nets", "a b c d e f g h i"),
                     ("show a", "2 3: 0-2/0+ 1-2/1-"), ("show b", "2 2: 0-1/1+"))

    def test_in_the_stead_of_the_one_it_is_made_of(self):
        desk = Desk()
        self.answers(desk, ("net a 1 2: 0-1/0+", "ok"), ("row a a a", "ok"), ("show a", "1 3: 0-2/0+ 1-2/0+"),
                     ("about a a", "ok"), ("show a", "1 3: 1-2/0+ 0-2/0+"), ("side a a a", "ok"),
                     ("show a", "1 4: 1-2/0+ 0-2/0+ 1-3/0+ 0-3/0+"), ("cut a 3 a", "ok"),
                     ("show a", "1 4: 1-2/0+ 0-2/0+ 1-3/0+"), ("trim a a", "ok"), ("show a", "1 4: 1-2/0+ 0-2/0+"),
                     ("bridge a 1 a", "ok"), ("show a", "1 3: 0-1/0+"), ("nets", "a"))

    def test_alike(self):
        desk = desk_with(a=(1, 2, ((0, 1, 0, 1),)), b=(1, 2, ((0, 1, 0, 0),)), c=(1, 5, ((0, 1, 0, 1),)), e=EMPTY,
                         x=CHAIN, y=(4, 2, ()))
        self.answers(desk, ("alike a b", "0"), ("alike a e", "1"), ("alike a c", "same"), ("alike c a", "same"),
                     ("alike a a", "same"), ("alike x y", "1011"), ("alike y x", "1011"))


class NoSuchLine(DeskCase):
    def setUp(self):
        self.desk = desk_with(a=(2, 3, ((0, 2, 0, 1), (1, 2, 1, 0))), b=(2, 2, ((0, 1, 0, 1),)), e=EMPTY)

    def test_other_counts_of_words(self):
        right = {"A": "a", "B": "b", "N": "n", "S": "01", "C": "0", "TEXT": "1 2:"}
        for verb, form in FORMS.items():
            words = [verb] + [right[part] for part in form.split()]
            self.refuses(self.desk, "BadNote", " ".join(words + ["a"]), " ".join(words + [""]))
            for count in range(len(words)):
                if words[:count] != ["nets"]:
                    self.refuses(self.desk, "BadNote", " ".join(words[:count]))

    def test_blanks(self):
        for line in ("nets", "show a", "lets a 01", "row a b n", "cut a 0 n", "alike a b", "net n 1 2: 0-1/0+"):
            self.refuses(self.desk, "BadNote", " " + line, line + " ", line + "\n", "\t" + line)
            for index, sign in enumerate(line):
                if sign == " ":
                    self.refuses(self.desk, "BadNote", line[:index] + " " + line[index:],
                                 line[:index] + "\t" + line[index + 1:], line[:index] + line[index + 1:])

    def test_other_verbs(self):
        self.refuses(self.desk, "BadNote", "", " ", "a", "keep a 1 2:", "Nets", "NETS", "Show a", "net", "net ",
                     "nets a", "shows a", "show, a", "plain a", "rings a 01", "bridged a 0 n", "~" * 400, "x" * 400, " " * 400,
                     "nets " * 80, "show " + "a" * 395, "lets a " + "0" * 393, "cut a " + "0" * 392 + " n")

    def test_words_that_are_no_names(self):
        wrong = ["", "A", "aB", "a1", "1", "a-b", "a_b", "abcdefghi", "x" * 390, ":", "a.", "\u00e4", "a\n", "\u00df"]
        for word in wrong:
            self.refuses(self.desk, "BadNote", f"net {word} 1 2:", f"show {word}", f"function {word}",
                         f"lets {word} 01", f"row {word} b n", f"row a {word} n", f"row a b {word}", f"side a b {word}",
                         f"about {word} n", f"about a {word}", f"cut a 0 {word}", f"bridge {word} 0 n",
                         f"trim a {word}", f"alike a {word}", f"alike {word} b", f"fewest {word}", f"ways {word}",
                         f"bars {word}", f"shut {word} 01", f"pieces {word} 01")

    def test_names_of_eight_letters(self):
        self.answers(self.desk, ("net zzzzzzzz 1 2:", "ok"), ("show zzzzzzzz", "1 2:"), ("about a abcdefgh", "ok"),
                     ("nets", "a abcdefgh b e zzzzzzzz"))
        self.refuses(self.desk, "BadNote", "net zzzzzzzzz 1 2:", "show zzzzzzzzz", "about a abcdefghi")
        self.refuses(self.desk, "NoName", "show zzzzzzzy", "show zzzzzzz")

    def test_words_that_are_no_settings(self):
        for word in ("", "2", "02", "0a", "00000", "01010", "0 1", "-1", "+1", "1.", "(0,1)", "yes", "0\n", "\u0661"):
            self.refuses(self.desk, "BadNote", f"lets a {word}", f"shut a {word}", f"pieces a {word}",
                         f"lets nobody {word}", f"shut nobody {word}", f"pieces nobody {word}")

    def test_words_that_are_no_numbers_from_0_to_15(self):
        for word in ("", "16", "17", "99", "00", "01", "015", "-0", "-1", "+1", "1.0", "a", "x", "0x1", "1_0", "0 0",
                     "9" * 390, "\u0661", "\u00b2", "1\n"):
            self.refuses(self.desk, "BadNote", f"cut a {word} n", f"bridge a {word} n", f"cut nobody {word} n",
                         f"bridge nobody {word} n")

    def test_texts_that_write_no_net(self):
        for text in ("", " ", "1", "1 2", "1  2:", " 1 2:", "1 2: ", "01 2:", "1 02:", "5 2:", "1 8:", "0 2:", "1 1:",
                     "1 2: 0-1/1+", "1 2: 1-0/0+", "1 2: 0-1/0", "2 3:  0-2/0+", "1 2:" + " 0-1/0+" * 17, "a",
                     "1 2:\n", "9" * 390, "1 2: 0-1/0+ 0-1/0", "1 2: n"):
            self.refuses(self.desk, "BadNote", f"net n {text}", f"net a {text}")

    def test_things_of_other_kinds(self):
        for thing in [thing for thing in ODD_THINGS if not isinstance(thing, str)] + [
                ["nets"], ("nets",), ["show", "a"], ("show", "a"), {"nets": ""}, {"show": "a"}, list("nets"), 15, (),
                EMPTY, [["nets"]], deep(30)]:
            before = copy.deepcopy(thing)
            self.refuses(self.desk, "BadNote", thing)
            self.assertEqual(thing, before)


class OrderOfRefusals(DeskCase):
    def setUp(self):
        self.desk = desk_with(a=(2, 3, ((0, 2, 0, 1), (0, 1, 1, 0))), b=(2, 7, ()), e=EMPTY, f=(4, 7, ()),
                              t=(1, 2, ((0, 1, 0, 1),) * 16))

    def test_no_such_line_goes_ahead_of_no_name(self):
        self.refuses(self.desk, "BadNote", "show x y", "lets x 2", "lets x 00000", "row x y N", "row x y abcdefghi",
                     "cut x 16 n", "cut x 01 n", "cut x 0 N", "bridge x 16 n", "about x 1", "trim x", "alike x Y",
                     "shut x", "pieces x 012")

    def test_no_name_goes_ahead_of_unlike_many(self):
        self.refuses(self.desk, "NoName", "lets x 0", "lets x 0000", "shut x 01", "pieces x 1", "row x e n",
                     "row e x n",
                     "row x x n", "side a x n", "side x a a", "alike x a", "alike e x", "show x", "function x",
                     "about x a", "cut x 0 n", "cut x 15 n", "bridge x 15 a", "trim x x", "fewest x", "ways x",
                     "bars x",
                     "row n a n", "show abcdefgh")

    def test_settings_of_other_many_bits(self):
        for verb in ("lets", "shut", "pieces"):
            for name, switches in (("a", 2), ("e", 1), ("f", 4), ("t", 1)):
                for count in range(1, 5):
                    for bit in "01":
                        line = f"{verb} {name} {bit * count}"
                        if count == switches:
                            self.assertIs(type(self.desk.say(line)), str)
                        else:
                            self.refuses(self.desk, "BadNote", line)

    def test_nets_of_unlike_many_switches(self):
        self.refuses(self.desk, "BadNote", "row a e n", "row e a n", "side a e n", "side e a a", "alike a e",
                     "alike e a",
                     "alike b f", "alike f b")

    def test_unlike_many_goes_ahead_of_too_many(self):
        self.refuses(self.desk, "BadNote", "row b f n", "row f b n", "side b f n", "row t b n", "side f b b",
                     "side t b t")

    def test_then_what_is_asked_refuses(self):
        self.refuses(self.desk, "TooMany", "row b b n", "row b a n", "side a b n", "row b b b", "side b b n",
                     "row t t n", "side t t t",
                     "row t t a", "fewest f")
        self.refuses(self.desk, "NoContact", "cut a 2 n", "cut a 15 n", "cut a 2 a", "bridge a 2 n", "bridge a 15 a",
                     "cut e 0 n", "bridge e 0 e", "cut b 15 b", "cut f 0 f")
        self.refuses(self.desk, "NoBridge", "bridge a 1 n", "bridge a 1 a", "bridge t 0 n", "bridge t 15 t")
        self.answers(self.desk, ("cut t 15 n", "ok"), ("side a a n", "ok"), ("bridge a 0 n", "ok"))
        self.refuses(self.desk, "NoContact", "bridge n 1 n", "cut n 1 n")


def made_lines(count):
    """Lines of all forms, some of them spoilt, over few names, so that most of these are kept before long."""
    below = fixed_row()
    names = ["a", "b", "c", "ab", "abcdefgh", "nets", "zz"]
    nets = made_nets(80, 4, 6) + made_nets(20, 7, 9)
    switches = {name: 1 + number % 3 for number, name in enumerate(names)}
    told = [f"net {name} {switches[name]} 2: 0-1/0+" for name in names[:5]]
    for _ in range(count):
        words = {part: names[below(len(names))] for part in "ABN"}
        words["S"] = bits(below(2) for _ in range(1 + below(4) if below(3) == 0 else switches[words["A"]]))
        words["C"] = str(below(18) if below(4) == 0 else below(4))
        words["TEXT"] = plain_text(nets[below(len(nets))])
        verb = list(FORMS)[below(len(FORMS))]
        line = " ".join([verb] + [words[part] for part in FORMS[verb].split()])
        if below(12) == 0:
            place = below(len(line) + 1)
            line = line[:place] + [" ", "", "a", "0", ":", "A"][below(6)] + line[place + below(2):]
        told.append(line)
    return told


class LongSessions(DeskCase):
    def test_against_the_plain_desk(self):
        desk = Desk()
        plain = PlainDesk()
        told = dict.fromkeys(REFUSED, 0)
        done = dict.fromkeys(FORMS, 0)
        for line in made_lines(4000):
            wanted = plain.say(line)
            if wanted in REFUSED:
                refused(self, wanted, desk.say, line)
                told[wanted] += 1
            else:
                self.answers(desk, (line, wanted))
                done[line.split(" ")[0]] += 1
            self.assertEqual(all_kept(desk), sorted((name, plain_text(net)) for name, net in plain.nets.items()))
        self.assertTrue(min(told.values()) >= 5, told)
        self.assertTrue(min(done.values()) >= 50, done)


class Desks(DeskCase):
    def test_two_desks_have_nothing_in_common(self):
        one = desk_with(a=EMPTY)
        other = Desk()
        self.answers(other, ("nets", ""))
        self.refuses(other, "NoName", "show a")
        self.answers(other, ("net a 1 3:", "ok"))
        self.answers(one, ("show a", "1 2:"))

    def test_asked_again(self):
        desk = desk_with(l=LADDER, a=ALIKE)
        for line in ("nets", "show l", "function l", "lets a 10", "shut a 10", "pieces l 000", "alike a a", "fewest l",
                     "ways l", "bars l"):
            self.assertEqual(desk.say(line), desk.say(line))


if __name__ == "__main__":
    unittest.main()
