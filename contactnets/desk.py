"""A desk that keeps nets by names, is told lines and answers."""

from contactnets.alike import first_unlike, trimmed
from contactnets.errors import BadNote, NoName
from contactnets.fewest import fewest
from contactnets.made import about, bridged, cut, in_row, side_by_side
from contactnets.nets import function_of, lets, shut_at
from contactnets.notes import bits_text, net_read, net_text
from contactnets.poles import pieces_at
from contactnets.ways import all_bars, all_ways

LETTERS = "abcdefghijklmnopqrstuvwxyz"

# What follows the first word: N a new name, A and B names of kept nets, S a setting, C a number, TEXT a net.
FORMS = {
    "net": ("N", "TEXT"),
    "nets": (),
    "show": ("A",),
    "function": ("A",),
    "lets": ("A", "S"),
    "shut": ("A", "S"),
    "pieces": ("A", "S"),
    "row": ("A", "B", "N"),
    "side": ("A", "B", "N"),
    "about": ("A", "N"),
    "cut": ("A", "C", "N"),
    "bridge": ("A", "C", "N"),
    "trim": ("A", "N"),
    "alike": ("A", "B"),
    "fewest": ("A",),
    "ways": ("A",),
    "bars": ("A",),
}


def setting_read(word):
    if not 1 <= len(word) <= 4 or not all([sign in "01" for sign in word]):
        raise BadNote("this is no setting of one to four bits")
    return tuple([int(sign) for sign in word])


def number_read(word):
    for number in range(16):
        if word == str(number):
            return number
    raise BadNote("this is no number from 0 to 15")


def name_read(word):
    if not 1 <= len(word) <= 8 or not all([sign in LETTERS for sign in word]):
        raise BadNote("this is no name")
    return word


def word_read(kind, word):
    if kind == "TEXT":
        return net_read(word)
    if kind == "S":
        return setting_read(word)
    if kind == "C":
        return number_read(word)
    return name_read(word)


# The text of a net has blanks itself, so there the third word is all that follows.
def words_of(line):
    if not isinstance(line, str):
        raise BadNote("this is no text")
    if line.startswith("net "):
        return line.split(" ", 2)
    return line.split(" ")


def line_read(words):
    kinds = FORMS.get(words[0])
    if kinds is None or len(words) != len(kinds) + 1:
        raise BadNote("there is no such line")
    return dict([(kind, word_read(kind, word)) for kind, word in zip(kinds, words[1:])])


def refuse_unfit(asked):
    if "S" in asked and len(asked["S"]) != asked["A"][0]:
        raise BadNote("the setting has another number of bits than the net has switches")
    if "B" in asked and asked["A"][0] != asked["B"][0]:
        raise BadNote("the two nets have unlike many switches")


def net_made(verb, asked):
    if verb == "net":
        return asked["TEXT"]
    if verb == "row":
        return in_row(asked["A"], asked["B"])
    if verb == "side":
        return side_by_side(asked["A"], asked["B"])
    if verb == "about":
        return about(asked["A"])
    if verb == "cut":
        return cut(asked["A"], asked["C"])
    if verb == "bridge":
        return bridged(asked["A"], asked["C"])
    return trimmed(asked["A"])


def shut_answer(net, setting):
    numbers = shut_at(net, setting)
    if not numbers:
        return "none"
    return " ".join([str(number) for number in numbers])


def answer_at(verb, net, setting):
    if verb == "lets":
        return "yes" if lets(net, setting) else "no"
    if verb == "shut":
        return shut_answer(net, setting)
    return str(len(pieces_at(net, setting)))


def alike_answer(one, other):
    setting = first_unlike(one, other)
    return "same" if setting is None else bits_text(setting)


def answer_of(verb, net):
    if verb == "show":
        return net_text(net)
    if verb == "function":
        return bits_text(function_of(net))
    if verb == "fewest":
        return str(fewest(function_of(net)))
    if verb == "ways":
        return str(len(all_ways(net)))
    return str(len(all_bars(net)))


def answer(verb, asked):
    if "S" in asked:
        return answer_at(verb, asked["A"], asked["S"])
    if "B" in asked:
        return alike_answer(asked["A"], asked["B"])
    return answer_of(verb, asked["A"])


class Desk:
    def __init__(self):
        self.kept = {}

    def with_nets(self, asked):
        told = dict(asked)
        for kind in ("A", "B"):
            if kind in asked:
                if asked[kind] not in self.kept:
                    raise NoName("no net is kept by this name")
                told[kind] = self.kept[asked[kind]]
        return told

    def say(self, line):
        words = words_of(line)
        asked = self.with_nets(line_read(words))
        refuse_unfit(asked)
        if words[0] == "nets":
            return " ".join(sorted(self.kept))
        if "N" in asked:
            self.kept[asked["N"]] = net_made(words[0], asked)
            return "ok"
        return answer(words[0], asked)
