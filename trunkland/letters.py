"""Letters and their texts (points 0.3 and 4)."""

from trunkland.errors import LetterError
from trunkland.offers import read_offer, write_offer
from trunkland.words import is_address, is_tag, read_number

VERBS = ("CALL", "KEEP", "STOP", "END", "TURN", "MOVE", "LIVE", "SIGN")
CODES = (18, 20, 41, 43, 44, 45, 46, 48, 50)
LEAST_FINAL_CODE = 20
GREATEST_CODE = 99
GREATEST_SEQ = 999999
LONGEST_STAY = 9999
# The first words of the lines behind the first one, in their order.
NEEDED = ("call", "from", "to", "seq", "way")
POSSIBLE = ("offer", "stay", "goal")


class Letter:
    """A request, or a reply if it has a code."""

    def __init__(self, *, verb, call, origin, origin_tag, target, target_tag, seq, way,
                 code=None, offer=None, stay=None, goal=None):
        self.verb = verb
        self.code = code
        self.call = call
        self.origin = origin
        self.origin_tag = origin_tag
        self.target = target
        self.target_tag = target_tag
        self.seq = seq
        self.way = way
        self.offer = offer
        self.stay = stay
        self.goal = goal

    def parts(self):
        """Return all parts of the letter."""
        return (self.verb, self.code, self.call, self.origin, self.origin_tag, self.target, self.target_tag,
                self.seq, self.way, self.offer, self.stay, self.goal)

    def reply(self, code, tag, offer=None, stay=None):
        """Return the reply to this request by the side with this tag."""
        return Letter(verb=self.verb, code=code, call=self.call, origin=self.origin, origin_tag=self.origin_tag,
                      target=self.target, target_tag=tag, seq=self.seq, way=self.way, offer=offer, stay=stay)


def is_final(code):
    """Tell whether a code is final."""
    return code >= LEAST_FINAL_CODE


def write(letter):
    """Return the text of a letter."""
    lines = [_write_head(letter), f"call {letter.call}", f"from {letter.origin} {letter.origin_tag}"]
    lines.append(f"to {letter.target} {letter.target_tag}" if letter.target_tag else f"to {letter.target}")
    lines.extend([f"seq {letter.seq}", f"way {letter.way}"])
    if letter.offer is not None:
        lines.append(f"offer {write_offer(letter.offer)}")
    if letter.stay is not None:
        lines.append(f"stay {letter.stay}")
    if letter.goal is not None:
        lines.append(f"goal {letter.goal}")
    return "".join([line + "\n" for line in lines])


def read(text):
    """Return the letter of a text."""
    lines = text.split("\n")
    # What stands behind the last newline is no line: a letter's text ends with a newline.
    rest = lines.pop()
    parts = _read_head(lines[0].split(" ")) if lines else None
    if parts is None:
        raise LetterError(1)
    number = 1
    for key in NEEDED:
        number += 1
        part = _read_line(key, lines[number - 1]) if number <= len(lines) else None
        if part is None:
            raise LetterError(number)
        parts.update(part)
    for key in POSSIBLE:
        part = _read_line(key, lines[number]) if number < len(lines) else None
        if part is not None:
            number += 1
            parts.update(part)
    # A line that fits none of the possible parts is left over here, and so is one without a newline.
    if number < len(lines) or rest != "":
        raise LetterError(number + 1)
    return Letter(**parts)


def _write_head(letter):
    if letter.code is None:
        return f"request {letter.verb}"
    return f"reply {letter.code} {letter.verb}"


def _read_head(words):
    if words[-1] not in VERBS:
        return None
    if len(words) == 2 and words[0] == "request":
        return {"verb": words[1]}
    if len(words) == 3 and words[0] == "reply" and read_number(words[1], GREATEST_CODE) in CODES:
        return {"verb": words[2], "code": int(words[1])}
    return None


def _read_line(key, line):
    """Return the parts that a line with this first word writes, or None if it is not such a line."""
    words = line.split(" ")
    if words[0] != key:
        return None
    if key == "from":
        return _read_origin(words[1:])
    if key == "to":
        return _read_target(words[1:])
    if key == "offer":
        offer = read_offer(words[1:])
        return {"offer": offer} if offer is not None else None
    return _read_single(key, words[1]) if len(words) == 2 else None


def _read_origin(words):
    if len(words) == 2 and is_address(words[0]) and is_tag(words[1]):
        return {"origin": words[0], "origin_tag": words[1]}
    return None


def _read_target(words):
    if len(words) == 1 and is_address(words[0]):
        return {"target": words[0], "target_tag": ""}
    if len(words) == 2 and is_address(words[0]) and is_tag(words[1]):
        return {"target": words[0], "target_tag": words[1]}
    return None


def _read_single(key, word):
    if key == "seq" or key == "stay":
        number = read_number(word, GREATEST_SEQ if key == "seq" else LONGEST_STAY)
        return {key: number} if number is not None else None
    is_right = is_address(word) if key == "goal" else is_tag(word)
    return {key: word} if is_right else None
