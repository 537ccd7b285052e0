"""Offers: what voice a side sends and takes, where, and in which formats (point 3)."""

from trunkland.words import is_name, read_number

MODES = ("both", "send", "take", "none")
GREATEST_PORT = 65535
MOST_FORMATS = 6


def read_offer(words):
    """Return the offer that a list of words writes, or None if they write none."""
    if len(words) != 3:
        return None
    port = read_number(words[0], GREATEST_PORT)
    mode = words[1]
    formats = _read_formats(words[2])
    if port is None or mode not in MODES or formats is None:
        return None
    return (port, mode, formats)


def write_offer(offer):
    """Return the three words of an offer with single spaces between them."""
    port, mode, formats = offer
    return " ".join([str(port), mode, ",".join(formats)])


def answer(able, offer):
    """Return the answer of a side with the offer `able`, or None if no format is common."""
    port, _, own_formats = able
    formats = tuple([name for name in offer[2] if name in own_formats])
    if not formats:
        return None
    sends, takes = flows(able, offer)
    return (port, _mode(sends, takes), formats)


def held(offer):
    """Return the offer like this one that does not take."""
    port, _, formats = offer
    return (port, _mode(_sends(offer), False), formats)


def flows(offer, answered):
    """Tell whether voice flows from the side of the offer to the other one, and back."""
    there = _sends(offer) and _takes(answered)
    back = _sends(answered) and _takes(offer)
    return (there, back)


def _read_formats(word):
    names = word.split(",")
    if len(names) > MOST_FORMATS or len(set(names)) < len(names):
        return None
    return tuple(names) if all([is_name(name) for name in names]) else None


def _sends(offer):
    return offer[1] in ("both", "send")


def _takes(offer):
    return offer[1] in ("both", "take")


def _mode(sends, takes):
    if sends and takes:
        return "both"
    if sends:
        return "send"
    return "take" if takes else "none"
