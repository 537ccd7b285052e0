"""Points 4.1 to 4.4 (and the words of 0.3, 2.1 and 3.2): letters, their replies and their texts."""

import itertools
import random
import re
import unittest

from trunkland.errors import LetterError, TrunklandError
from trunkland.letters import Letter, read, write

VERBS = ["CALL", "KEEP", "STOP", "END", "TURN", "MOVE", "LIVE", "SIGN"]
CODES = [18, 20, 41, 43, 44, 45, 46, 48, 50]
MODES = ["both", "send", "take", "none"]
MARKS = [chr(code) for code in range(32, 127)] + ["\n"]
FULL = ("request CALL\ncall c1\nfrom ann@p t1\nto bob@x t2\nseq 4\nway w9\n"
        "offer 4000 both wide,plain\nstay 30\ngoal eve@y\n")

# The text of a letter, and of each beginning of it that ends with a line, as one pattern: a second
# way to tell what is a letter, apart from how the program reads.
NAME = "[a-z][a-z0-9]{0,15}"
TAG = "[A-Za-z0-9]{1,16}"
ADDRESS = f"{NAME}@{NAME}"
PORT = "(?:0|[1-9][0-9]{0,3}|[1-5][0-9]{4}|6[0-4][0-9]{3}|65[0-4][0-9]{2}|655[0-2][0-9]|6553[0-5])"
FORMATS = rf"(?!(?:[a-z0-9]+,)*([a-z0-9]+),(?:[a-z0-9]+,)*\1[,\n]){NAME}(?:,{NAME}){{0,5}}"
HEAD = rf"(?:request|reply (?:18|20|41|43|44|45|46|48|50)) (?:{'|'.join(VERBS)})\n"
NEEDED = [HEAD, f"call {TAG}\n", f"from {ADDRESS} {TAG}\n", f"to {ADDRESS}(?: {TAG})?\n",
          "seq (?:0|[1-9][0-9]{0,5})\n", f"way {TAG}\n"]
POSSIBLE = f"(?:offer {PORT} (?:{'|'.join(MODES)}) {FORMATS}\n)?(?:stay (?:0|[1-9][0-9]{{0,3}})\n)?(?:goal {ADDRESS}\n)?"
WHOLE = re.compile("".join(NEEDED) + POSSIBLE)
BEGINNING = re.compile("".join("(?:" + line for line in NEEDED) + POSSIBLE + ")?" * len(NEEDED))


def wrong_line(text):
    """Return the number of the line that makes this no letter's text, or None if it is one."""
    if WHOLE.fullmatch(text):
        return None
    lines = text.split("\n")[:-1]
    for many in range(1, len(lines) + 1):
        if not BEGINNING.fullmatch("\n".join(lines[:many]) + "\n"):
            return many
    return len(lines) + 1


def random_parts(chance):
    name_marks, tag_marks = "abcz019", "abzABZ019"

    def name():
        return chance.choice("abz") + "".join(chance.choices(name_marks, k=chance.choice([0, 1, 2, 15])))

    def tag():
        return "".join(chance.choices(tag_marks, k=chance.choice([1, 2, 3, 16])))

    def address():
        return name() + "@" + name()

    def offer():
        names = list(dict.fromkeys(name() for _ in range(chance.randint(1, 6))))
        return (chance.choice([0, 7, 65535, chance.randint(0, 65535)]), chance.choice(MODES), tuple(names))

    return {
        "verb": chance.choice(VERBS), "code": chance.choice(CODES + [None] * 5), "call": tag(), "origin": address(),
        "origin_tag": tag(), "target": address(), "target_tag": chance.choice(["", tag()]),
        "seq": chance.choice([0, 1, 999999, chance.randint(0, 999999)]), "way": tag(),
        "offer": chance.choice([None, offer()]), "stay": chance.choice([None, 0, 1, 9999, chance.randint(0, 9999)]),
        "goal": chance.choice([None, address()]),
    }


def expected_text(parts):
    """Write the lines of point 4.3, apart from how the program writes them."""
    text = "request " if parts["code"] is None else f"reply {parts['code']} "
    text += f"{parts['verb']}\ncall {parts['call']}\nfrom {parts['origin']} {parts['origin_tag']}\nto {parts['target']}"
    text += f"{' ' if parts['target_tag'] else ''}{parts['target_tag']}\nseq {parts['seq']}\nway {parts['way']}\n"
    if parts["offer"] is not None:
        port, mode, formats = parts["offer"]
        text += f"offer {port} {mode} {','.join(formats)}\n"
    if parts["stay"] is not None:
        text += f"stay {parts['stay']}\n"
    if parts["goal"] is not None:
        text += f"goal {parts['goal']}\n"
    return text


def in_order(parts):
    return tuple(parts[key] for key in ["verb", "code", "call", "origin", "origin_tag", "target", "target_tag", "seq",
                                        "way", "offer", "stay", "goal"])


class LetterCase(unittest.TestCase):
    def check_wrong(self, text, line):
        with self.assertRaises(LetterError) as caught:
            read(text)
        self.assertEqual(caught.exception.line, line, repr(text))
        self.assertIsInstance(caught.exception, TrunklandError)

    def check(self, text):
        """Check a text against the pattern, whatever it is."""
        line = wrong_line(text)
        if line is None:
            self.assertEqual(write(read(text)), text)
        else:
            self.check_wrong(text, line)


class LetterTest(LetterCase):
    def make(self, **more):
        parts = {"verb": "TURN", "call": "c1", "origin": "ann@p", "origin_tag": "t1", "target": "bob@x",
                 "target_tag": "", "seq": 4, "way": "w9"}
        parts.update(more)
        return Letter(**parts)

    def test_parts_that_may_be_left_out(self):
        letter = self.make()
        self.assertEqual(letter.parts(), ("TURN", None, "c1", "ann@p", "t1", "bob@x", "", 4, "w9", None, None, None))
        self.assertIs(type(letter.parts()), tuple)

    def test_fields(self):
        chance = random.Random(1)
        for _ in range(300):
            parts = random_parts(chance)
            letter = Letter(**parts)
            for key, value in parts.items():
                self.assertEqual(getattr(letter, key), value)
            self.assertEqual(letter.parts(), in_order(parts))

    def test_arguments_by_name_only(self):
        with self.assertRaises(TypeError):
            Letter("TURN", "c1", "ann@p", "t1", "bob@x", "", 4, "w9")

    def test_reply(self):
        chance = random.Random(2)
        for _ in range(300):
            parts = dict(random_parts(chance), code=None)
            request = Letter(**parts)
            before = request.parts()
            for code in CODES:
                offer, stay = chance.choice([None, (1, "both", ("a",))]), chance.choice([None, 0, 9])
                found = request.reply(code, "own", offer, stay)
                kept = dict(parts, code=code, target_tag="own", offer=offer, stay=stay, goal=None)
                self.assertEqual(found.parts(), in_order(kept))
                self.assertIsInstance(found, Letter)
            self.assertEqual(request.parts(), before)

    def test_reply_without_offer_and_stay(self):
        request = self.make(offer=(1, "send", ("a",)), stay=7, goal="eve@y", target_tag="t2")
        self.assertEqual(request.reply(46, "r").parts(),
                         ("TURN", 46, "c1", "ann@p", "t1", "bob@x", "r", 4, "w9", None, None, None))
        self.assertEqual(request.reply(20, "r", stay=5).parts()[-3:], (None, 5, None))
        self.assertEqual(request.reply(20, "r", offer=(2, "take", ("a",))).parts()[-3:],
                         ((2, "take", ("a",)), None, None))


class WriteTest(LetterCase):
    def test_every_verb_and_code(self):
        chance = random.Random(3)
        for verb, code in itertools.product(VERBS, [None] + CODES):
            for _ in range(5):
                parts = dict(random_parts(chance), verb=verb, code=code)
                text = write(Letter(**parts))
                self.assertEqual(text, expected_text(parts))
                self.assertEqual(read(text).parts(), in_order(parts))
                self.assertEqual(write(read(text)), text)

    def test_every_choice_of_possible_parts(self):
        chance = random.Random(4)
        offer = (9, "none", ("a", "b", "c", "d", "e", "f"))
        for tag, offer, stay, goal in itertools.product(["", "t"], [None, offer], [None, 0, 9999], [None, "a@b"]):
            parts = dict(random_parts(chance), target_tag=tag, offer=offer, stay=stay, goal=goal)
            self.assertEqual(write(Letter(**parts)), expected_text(parts))
            self.assertEqual(read(expected_text(parts)).parts(), in_order(parts))

    def test_written_out(self):
        letter = Letter(verb="SIGN", code=20, call="s1", origin="bob@x", origin_tag="s", target="bob@x",
                        target_tag="x0n0", seq=1, way="s1", stay=90)
        self.assertEqual(write(letter), "reply 20 SIGN\ncall s1\nfrom bob@x s\nto bob@x x0n0\nseq 1\nway s1\nstay 90\n")
        letter = Letter(verb="MOVE", call="c", origin="a@x", origin_tag="s", target="b@x", target_tag="", seq=0,
                        way="w", offer=(0, "send", ("b", "a")), stay=0, goal="c@x")
        self.assertEqual(write(letter), "request MOVE\ncall c\nfrom a@x s\nto b@x\nseq 0\nway w\n"
                                        "offer 0 send b,a\nstay 0\ngoal c@x\n")

    def test_kinds_of_what_is_read(self):
        letter = read(FULL)
        self.assertEqual([type(part) for part in letter.parts()],
                         [str, type(None), str, str, str, str, str, int, str, tuple, int, str])
        self.assertEqual([type(part) for part in letter.offer], [int, str, tuple])
        self.assertIs(type(read("reply 20 " + FULL[8:]).code), int)
        self.assertEqual(read(FULL.replace("bob@x t2", "bob@x")).target_tag, "")


class ReadTest(LetterCase):
    def test_pattern_itself(self):
        self.assertIsNone(wrong_line(FULL))
        self.assertEqual([wrong_line(""), wrong_line("request END\n"), wrong_line(FULL + "x")], [1, 2, 10])

    def test_cut_anywhere(self):
        for text in [FULL, FULL.replace("request", "reply 20").replace(" t2", ""), FULL[:FULL.index("offer")]]:
            whole_at = [text.index("offer") if "offer" in text else len(text), len(text)]
            whole_at += [text.index(word) for word in ["stay", "goal"] if word in text]
            for many in range(len(text) + 1):
                if many in whole_at:
                    self.assertEqual(write(read(text[:many])), text[:many])
                else:
                    self.check_wrong(text[:many], text[:many].count("\n") + 1)

    def test_missing_lines(self):
        self.check_wrong("", 1)
        self.check_wrong("\n", 1)
        self.check_wrong("request END", 1)
        self.check_wrong("request END\n", 2)
        self.check_wrong("request END\ncall c1\n", 3)
        self.check_wrong("request END\ncall c1\nfrom ann@p t1\nto bob@x t2\nseq 4\n", 6)
        self.check_wrong("request END\ncall c1\nfrom ann@p t1\nto bob@x t2\nseq 4\nway w9", 6)

    def test_goes_on_behind_the_last_line(self):
        short = "request END\ncall c1\nfrom ann@p t1\nto bob@x t2\nseq 4\nway w9\n"
        for rest in [" ", "\n", "x", "x\n", "\n\n", "stay", "stay 1", "way w9\n", "request END\n", short]:
            self.check_wrong(short + rest, 7)
            self.check_wrong(FULL + rest, 10)
        self.check_wrong(short + "stay 1\nstay 1\n", 8)
        self.check_wrong(short + "stay 1\noffer 1 both a\n", 8)
        self.check_wrong(short + "goal a@x\nstay 1\n", 8)

    def test_first_wrong_line_counts(self):
        self.check_wrong("request END\ncall c-1\n", 2)
        self.check_wrong("request END\ncall c-1", 2)
        self.check_wrong("request END\ncall c-1\nfrom ann\n", 2)
        self.check_wrong("request end\ncall c-1\nfrom ann", 1)
        self.check_wrong("request END\ncall c1\nfrom ann@p\n", 3)
        self.check_wrong("request \ncall c1\n", 1)

    def test_heads(self):
        rest = FULL[FULL.index("\n"):]
        for head in ["", " ", "request", "request ", "request  END", " request END", "request END ", "REQUEST END",
                     "request end", "request End", "request CAL", "request CALLS", "request 20 END", "request RING",
                     "reply END", "reply 20", "reply 20 ", "reply  20 END", "reply 20  END", "reply 20 END ",
                     "reply 20 end", "reply 020 END", "reply 2 END", "reply 200 END", "reply END 20", "reply +20 END",
                     "reply x END", "reply  END", "reply None END", "Reply 20 END", "answer 20 END", "END"]:
            self.check_wrong(head + rest, 1)
        for code in range(130):
            if code in CODES:
                self.assertEqual(read(f"reply {code} END{rest}").code, code)
            else:
                self.check_wrong(f"reply {code} END{rest}", 1)
        for verb in VERBS:
            self.assertEqual(read(f"request {verb}{rest}").parts()[:2], (verb, None))
            self.check_wrong(f"request {verb.lower()}{rest}", 1)

    def test_numbers(self):
        for word, most, line in [("seq 4", 999999, 5), ("stay 30", 9999, 8), ("offer 4000", 65535, 7)]:
            key = word.split(" ")[0]
            for number in [0, 1, 10, 9999, most - 1, most]:
                text = FULL.replace(word, f"{key} {number}") if number <= most else FULL
                self.assertEqual(write(read(text)), text)
            for number in [str(most + 1), "00", "01", "007", "-1", "+1", "1.", "1e3", "", " 1", "1 ", "x", "0x1", "1_0",
                           str(most) + "0", "999999999", "1000000000"]:
                self.check_wrong(FULL.replace(word, f"{key} {number}"), line)

    def test_tags_and_addresses(self):
        tags = ["", "c-1", "c1 c2", " c1", "c1 ", "a" * 17, "c@1", "c\t1"]
        for tag in tags:
            self.check_wrong(FULL.replace("call c1", f"call {tag}"), 2)
            self.check_wrong(FULL.replace("way w9", f"way {tag}"), 6)
            self.check_wrong(FULL.replace("ann@p t1", f"ann@p {tag}"), 3)
            self.check_wrong(FULL.replace("bob@x t2", f"bob@x {tag}"), 4)
        for address in ["ann", "@p", "ann@", "Ann@p", "ann@P", "ann@p@q", "1nn@p", "ann@1", "a" * 17 + "@p",
                        "ann@" + "p" * 17, "ann @p", ""]:
            self.check_wrong(FULL.replace("ann@p", address), 3)
            self.check_wrong(FULL.replace("bob@x", address), 4)
            self.check_wrong(FULL.replace("eve@y", address), 9)
        for tag in ["a", "Z", "0", "a" * 16, "aB9"]:
            self.assertEqual(read(FULL.replace("call c1", f"call {tag}")).call, tag)
        self.check_wrong(FULL.replace("from ann@p t1", "from ann@p"), 3)
        self.check_wrong(FULL.replace("to bob@x t2", "to"), 4)

    def test_offers(self):
        for words in ["", "1", "1 both", "1 both a b", "both 1 a", "1 both a,a", "1 both a,", "1 Both a", "1 hold a",
                      "1 both A", "1  both a", "1 both a ", "1 both a,b,c,d,e,f,g", "65536 both a"]:
            self.check_wrong(FULL.replace("4000 both wide,plain", words), 7)
        self.assertEqual(read(FULL.replace("4000 both wide,plain", "0 none a,b,c,d,e,f")).offer,
                         (0, "none", ("a", "b", "c", "d", "e", "f")))

    def test_one_character_changed(self):
        for text in [FULL, "reply 46 END\ncall A\nfrom a@b 1\nto c@d\nseq 999999\nway Z\nstay 9\n"]:
            for at in range(len(text) + 1):
                self.check(text[:at] + text[at + 1:])
                for mark in MARKS:
                    self.check(text[:at] + mark + text[at:])
                    self.check(text[:at] + mark + text[at + 1:])

    def test_lines_left_out_repeated_or_swapped(self):
        chance = random.Random(5)
        for _ in range(300):
            lines = expected_text(random_parts(chance)).split("\n")[:-1]
            for at in range(len(lines)):
                for changed in [lines[:at] + lines[at + 1:], lines[:at + 1] + lines[at:],
                                lines[:at] + lines[at + 1:at + 2] + lines[at:at + 1] + lines[at + 2:],
                                lines[:at] + [lines[at] + " "] + lines[at + 1:],
                                lines[:at] + [lines[at].replace(" ", "  ", 1)] + lines[at + 1:]]:
                    self.check("".join(line + "\n" for line in changed))
                    self.check("\n".join(changed))

    def test_any_change(self):
        chance = random.Random(6)
        right = 0
        for _ in range(6000):
            text = expected_text(random_parts(chance))
            for _ in range(chance.randint(1, 2)):
                at = chance.randint(0, len(text))
                gone = chance.choice([0, 0, 1, 1, 5])
                text = text[:at] + "".join(chance.choices(MARKS + ["0", "a", " ", "\n"] * 5,
                                                          k=chance.choice([0, 1, 2]))) + text[at + gone:]
            right += wrong_line(text) is None
            self.check(text)
        self.assertGreater(right, 300)

    def test_example(self):
        text = "request END\ncall c1\nfrom ann@p t1\nto bob@x t2\nseq 4\nway w9\n"
        self.assertEqual(read(text).parts(),
                         ("END", None, "c1", "ann@p", "t1", "bob@x", "t2", 4, "w9", None, None, None))
        self.assertEqual(write(read(text).reply(20, "t2")),
                         "reply 20 END\ncall c1\nfrom ann@p t1\nto bob@x t2\nseq 4\nway w9\n")
