"""Points 3.1 to 3.4: offers, answers, holding, and the flow of voice."""

import itertools
import random
import unittest

from trunkland.offers import answer, flows, held, read_offer, write_offer

MODES = ["both", "send", "take", "none"]
# What each mode does is written out here, apart from how the program tells it.
SENDS = {"both": True, "send": True, "take": False, "none": False}
TAKES = {"both": True, "send": False, "take": True, "none": False}
SIX = "a,b,c,d,e,f"
LONG = "abcdefghijklmnop"


class ReadOfferTest(unittest.TestCase):
    def test_right_offers(self):
        for port in [0, 1, 9, 10, 4000, 65534, 65535]:
            for mode in MODES:
                for formats in ["a", "wide", "wide,plain", "plain,wide", SIX, LONG, "a1,a2,a", LONG + ",b"]:
                    offer = read_offer([str(port), mode, formats])
                    self.assertEqual(offer, (port, mode, tuple(formats.split(","))))
                    self.assertEqual([type(part) for part in offer], [int, str, tuple])
                    self.assertIs(type(offer), tuple)

    def test_read_back_as_it_was(self):
        for port in [0, 7, 4000, 65535]:
            for mode in MODES:
                for formats in [("a",), ("wide", "plain"), ("plain", "wide"), ("a", "b", "c", "d", "e", "f")]:
                    offer = (port, mode, formats)
                    self.assertEqual(read_offer(write_offer(offer).split(" ")), offer)

    def test_ports(self):
        for port in ["65536", "99999", "100000", "00", "00000", "01", "04000", "065535", "", " ", "-1", "+1",
                     "4000 ", " 4000", "4_0", "4.0", "x", "1000000000"]:
            self.assertIsNone(read_offer([port, "both", "wide"]), port)
        self.assertEqual(read_offer(["0", "both", "wide"]), (0, "both", ("wide",)))
        self.assertEqual(read_offer(["65535", "both", "wide"]), (65535, "both", ("wide",)))

    def test_modes(self):
        for mode in ["", "Both", "BOTH", "bot", "boths", "sends", "held", "recv", " both", "both ", "bothsend", "a"]:
            self.assertIsNone(read_offer(["4000", mode, "wide"]), mode)

    def test_formats(self):
        for formats in ["", ",", "a,", ",a", "a,,b", "a, b", "a b", " a", "a ", "A", "a,B", "2a", "a,2", "a_b",
                        "a;b", "a@b", LONG + "q", "a," + LONG + "q", SIX + ",g", SIX + ",", "a,b,c,d,e,f,g,h"]:
            self.assertIsNone(read_offer(["4000", "both", formats]), formats)

    def test_formats_differ(self):
        for formats in ["a,a", "a,b,a", "b,a,a", "a,a,b", "a,b,c,d,e,a", "a,b,c,d,e,e", "a,b,c,d,e,f,a"]:
            self.assertIsNone(read_offer(["4000", "both", formats]), formats)
        self.assertIsNotNone(read_offer(["4000", "both", "a,aa,aaa"]))

    def test_count_of_formats(self):
        names = ["a", "b", "c", "d", "e", "f", "g", "h"]
        for many in range(1, 9):
            offer = read_offer(["1", "none", ",".join(names[:many])])
            self.assertEqual(offer is not None, many <= 6)

    def test_count_of_words(self):
        right = ["4000", "both", "wide"]
        self.assertIsNotNone(read_offer(right))
        for many in range(3):
            self.assertIsNone(read_offer(right[:many]))
        for at in range(4):
            for word in ["", "wide", "both", "1"]:
                self.assertIsNone(read_offer(right[:at] + [word] + right[at:]))
        self.assertIsNone(read_offer(["4000 both wide"]))

    def test_order_of_words(self):
        for words in itertools.permutations(["4000", "both", "wide"]):
            self.assertEqual(read_offer(list(words)) is not None, words == ("4000", "both", "wide"))

    def test_each_changed_mark(self):
        marks = [chr(code) for code in range(32, 127)]
        small = set("abcdefghijklmnopqrstuvwxyz")
        digits = set("0123456789")
        for mark in marks:
            self.assertEqual(read_offer(["40" + mark, "both", "a"]) is not None, mark in digits, mark)
            self.assertEqual(read_offer([mark + "4", "both", "a"]) is not None, mark in digits - {"0"}, mark)
            self.assertIsNone(read_offer(["4", "both" + mark, "a"]), mark)
            self.assertIsNone(read_offer(["4", mark + "both", "a"]), mark)
            self.assertEqual(read_offer(["4", "both", mark + "x"]) is not None, mark in small, mark)
            self.assertEqual(read_offer(["4", "both", "x" + mark + "y"]) is not None,
                             mark in small | digits | {","}, mark)

    def test_words_are_not_modified(self):
        for words in [["4000", "both", "wide,plain"], ["4000", "both", "a,"], []]:
            before = list(words)
            read_offer(words)
            self.assertEqual(words, before)

    def test_example(self):
        self.assertEqual(read_offer(["4000", "both", "wide,plain"]), (4000, "both", ("wide", "plain")))


class WriteOfferTest(unittest.TestCase):
    def test_written(self):
        self.assertEqual(write_offer((4000, "both", ("wide", "plain"))), "4000 both wide,plain")
        self.assertEqual(write_offer((0, "none", ("a",))), "0 none a")
        self.assertEqual(write_offer((65535, "send", ("a", "b", "c", "d", "e", "f"))), "65535 send " + SIX)
        self.assertEqual(write_offer((7, "take", ("plain", "wide"))), "7 take plain,wide")

    def test_somewhat_beyond_the_limits(self):
        self.assertEqual(write_offer((65536, "both", ("a", "b", "c", "d", "e", "f", "g"))),
                         "65536 both a,b,c,d,e,f,g")


class AnswerTest(unittest.TestCase):
    def test_mode_of_each_pair(self):
        for able_mode, mode in itertools.product(MODES, MODES):
            found = answer((5000, able_mode, ("wide",)), (4000, mode, ("wide",)))
            self.assertEqual(found[0], 5000)
            self.assertEqual(found[2], ("wide",))
            self.assertIn(found[1], MODES)
            self.assertEqual(SENDS[found[1]], SENDS[able_mode] and TAKES[mode])
            self.assertEqual(TAKES[found[1]], TAKES[able_mode] and SENDS[mode])

    def test_modes_written_out(self):
        expected = {
            ("both", "both"): "both", ("both", "send"): "take", ("both", "take"): "send", ("both", "none"): "none",
            ("send", "both"): "send", ("send", "send"): "none", ("send", "take"): "send", ("send", "none"): "none",
            ("take", "both"): "take", ("take", "send"): "take", ("take", "take"): "none", ("take", "none"): "none",
            ("none", "both"): "none", ("none", "send"): "none", ("none", "take"): "none", ("none", "none"): "none",
        }
        for (able_mode, mode), found in expected.items():
            self.assertEqual(answer((1, able_mode, ("a",)), (2, mode, ("a",))), (1, found, ("a",)))

    def test_formats_in_the_order_of_the_offer(self):
        cases = [
            (("a", "b", "c"), ("a", "b", "c"), ("a", "b", "c")),
            (("a", "b", "c"), ("c", "b", "a"), ("c", "b", "a")),
            (("c", "a"), ("a", "b", "c"), ("a", "c")),
            (("b",), ("a", "b", "c"), ("b",)),
            (("a", "b", "c"), ("c",), ("c",)),
            (("a", "d"), ("b", "a"), ("a",)),
            (("a", "b", "c", "d", "e", "f"), ("f", "e", "d", "c", "b", "a"), ("f", "e", "d", "c", "b", "a")),
        ]
        for own, offered, common in cases:
            for able_mode, mode in itertools.product(MODES, MODES):
                found = answer((5000, able_mode, own), (4000, mode, offered))
                self.assertEqual(found[2], common)
                self.assertIs(type(found[2]), tuple)
                self.assertIs(type(found), tuple)

    def test_no_format_in_common(self):
        for own, offered in [(("a",), ("b",)), (("a", "b"), ("c", "d", "e")), (("wide",), ("wid", "wider"))]:
            for able_mode, mode in itertools.product(MODES, MODES):
                self.assertIsNone(answer((5000, able_mode, own), (4000, mode, offered)))

    def test_own_port(self):
        for own, other in [(0, 65535), (65535, 0), (1, 1), (4000, 5000)]:
            self.assertEqual(answer((own, "both", ("a",)), (other, "both", ("a",)))[0], own)

    def test_any_formats(self):
        chance = random.Random(33)
        names = ["a", "b", "c", "d", "e", "f", "g"]
        for _ in range(3000):
            own = tuple(chance.sample(names, chance.randint(1, 6)))
            offered = tuple(chance.sample(names, chance.randint(1, 6)))
            common = [name for name in offered if name in own]
            found = answer((1, "both", own), (2, "both", offered))
            self.assertEqual(found, (1, "both", tuple(common)) if common else None)

    def test_example(self):
        found = answer((5000, "both", ("plain", "thin")), (4000, "send", ("wide", "plain")))
        self.assertEqual(found, (5000, "take", ("plain",)))


class HeldTest(unittest.TestCase):
    def test_each_mode(self):
        expected = {"both": "send", "send": "send", "take": "none", "none": "none"}
        for mode, other in expected.items():
            for port, formats in [(0, ("a",)), (4000, ("wide", "plain")), (65535, ("b", "a", "c"))]:
                self.assertEqual(held((port, mode, formats)), (port, other, formats))

    def test_held_twice_is_held_once(self):
        for mode in MODES:
            once = held((1, mode, ("a",)))
            self.assertEqual(held(once), once)

    def test_example(self):
        self.assertEqual(held((4000, "both", ("wide",))), (4000, "send", ("wide",)))


class FlowsTest(unittest.TestCase):
    def test_each_pair_of_modes(self):
        for mode, other in itertools.product(MODES, MODES):
            found = flows((1, mode, ("a",)), (2, other, ("a",)))
            self.assertEqual(found, (SENDS[mode] and TAKES[other], SENDS[other] and TAKES[mode]))
            self.assertIs(type(found), tuple)
            self.assertEqual([type(part) for part in found], [bool, bool])

    def test_written_out(self):
        cases = {
            ("both", "both"): (True, True), ("both", "send"): (False, True), ("both", "take"): (True, False),
            ("send", "take"): (True, False), ("take", "send"): (False, True), ("send", "send"): (False, False),
            ("take", "take"): (False, False), ("both", "none"): (False, False), ("none", "both"): (False, False),
        }
        for (mode, other), found in cases.items():
            self.assertEqual(flows((1, mode, ("a",)), (2, other, ("a",))), found)

    def test_ways_swap_with_the_sides(self):
        for mode, other in itertools.product(MODES, MODES):
            there, back = flows((1, mode, ("a",)), (2, other, ("b",)))
            self.assertEqual(flows((2, other, ("b",)), (1, mode, ("a",))), (back, there))

    def test_held_side_hears_nothing(self):
        for mode, other in itertools.product(MODES, MODES):
            offer = held((1, mode, ("a",)))
            self.assertFalse(flows(offer, answer((2, other, ("a",)), offer))[1])

    def test_example(self):
        self.assertEqual(flows((1, "send", ("a",)), (2, "take", ("a",))), (True, False))
