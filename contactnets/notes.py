"""Nets, settings and functions as they are written, and the texts of nets read."""

from contactnets.errors import BadNote
from contactnets.nets import is_net

FIGURES = "0123456789"


def contact_text(contact):
    a = contact[0]
    b = contact[1]
    switch = contact[2]
    sign = "+" if contact[3] == 1 else "-"
    return f"{a}-{b}/{switch}{sign}"


def net_text(net):
    switches = net[0]
    places = net[1]
    return " ".join([f"{switches} {places}:"] + [contact_text(contact) for contact in net[2]])


def bits_text(bits):
    return "".join([str(bit) for bit in bits])


# No number of a net has two figures, so each one stands at a sign of its own; -1 is none of a net.
def figure(sign):
    return FIGURES.find(sign)


def has_lengths_of_net(words):
    if len(words) < 2 or len(words[0]) != 1 or len(words[1]) != 2:
        return False
    return all([len(word) == 6 for word in words[2:]])


def contact_read(word):
    return (figure(word[0]), figure(word[2]), figure(word[4]), 1 if word[5] == "+" else 0)


# The signs between the numbers are not looked at one by one: the net must write just this text.
def net_read(text):
    if not isinstance(text, str):
        raise BadNote("this is no text")
    words = text.split(" ")
    if not has_lengths_of_net(words):
        raise BadNote("this text writes no net")
    net = (figure(words[0]), figure(words[1][0]), tuple([contact_read(word) for word in words[2:]]))
    if not is_net(net) or net_text(net) != text:
        raise BadNote("this text writes no net")
    return net
