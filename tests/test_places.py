"""Points 8.1 and 8.2: the places of users."""

import random
import unittest

from trunkland.places import Places

USERS = ["ann", "bob", "cat", "dan"]
STATIONS = ["p", "q", "r", "s"]


class SignTest(unittest.TestCase):
    def test_granted_stay(self):
        places = Places(["ann"], ["p"], 50)
        granted = [places.sign("ann", "p", seq, stay, 7) for seq, stay in enumerate([0, 1, 49, 50, 51, 9999])]
        self.assertEqual(granted, [0, 1, 49, 50, 50, 50])

    def test_longest(self):
        for longest in [1, 500, 9999]:
            places = Places(["ann"], ["p"], longest)
            self.assertEqual(places.sign("ann", "p", 1, 9999, 3), longest)
            self.assertEqual(places.bindings(3), [("ann", "p", 3 + longest)])

    def test_unknown(self):
        places = Places(["ann", "bob"], ["p"], 50)
        for user, place in [("eve", "p"), ("ann", "q"), ("eve", "q"), ("p", "ann"), ("", "p"), ("ann", "")]:
            self.assertIsNone(places.sign(user, place, 1, 9, 0))
        self.assertEqual([places.bindings(0), places.of("eve", 0), places.of("ann", 0)], [[], [], []])

    def test_unknown_place_uses_up_no_number(self):
        places = Places(["ann"], ["p"], 50)
        places.sign("ann", "q", 9, 5, 0)
        places.sign("ann", "p", 1, 5, 0)
        self.assertEqual(places.of("ann", 0), ["p"])

    def test_end_of_a_binding(self):
        for stay in [1, 2, 30]:
            places = Places(["ann"], ["p"], 50)
            places.sign("ann", "p", 1, stay, 10)
            for now in range(10, 100):
                self.assertEqual(places.of("ann", now), ["p"] if now < 10 + stay else [])
                self.assertEqual(places.bindings(now), [("ann", "p", 10 + stay)] if now < 10 + stay else [])

    def test_stay_of_0(self):
        places = Places(["ann"], ["p"], 50)
        self.assertEqual(places.sign("ann", "p", 1, 0, 0), 0)
        self.assertEqual([places.of("ann", 0), places.bindings(0)], [[], []])
        places.sign("ann", "p", 2, 40, 0)
        self.assertEqual(places.of("ann", 5), ["p"])
        self.assertEqual(places.sign("ann", "p", 3, 0, 5), 0)
        self.assertEqual([places.of("ann", 5), places.bindings(5)], [[], []])

    def test_sequence_numbers(self):
        places = Places(["ann"], ["p"], 50)
        places.sign("ann", "p", 5, 20, 0)
        for seq in [0, 4, 5]:
            self.assertEqual(places.sign("ann", "p", seq, 30, 1), 30)
            self.assertEqual(places.sign("ann", "p", seq, 0, 1), 0)
            self.assertEqual(places.bindings(1), [("ann", "p", 20)])
        self.assertEqual(places.sign("ann", "p", 6, 3, 1), 3)
        self.assertEqual(places.bindings(1), [("ann", "p", 4)])

    def test_first_sequence_number_may_be_0(self):
        places = Places(["ann"], ["p"], 50)
        places.sign("ann", "p", 0, 20, 0)
        self.assertEqual(places.of("ann", 0), ["p"])
        places.sign("ann", "p", 0, 30, 5)
        self.assertEqual(places.bindings(5), [("ann", "p", 20)])

    def test_number_is_remembered_behind_the_end(self):
        places = Places(["ann"], ["p"], 50)
        places.sign("ann", "p", 5, 10, 0)
        self.assertEqual(places.sign("ann", "p", 5, 10, 20), 10)
        self.assertEqual(places.bindings(20), [])
        places.sign("ann", "p", 6, 10, 20)
        self.assertEqual(places.bindings(20), [("ann", "p", 30)])

    def test_numbers_of_each_user_and_place(self):
        places = Places(["ann", "bob"], ["p", "q"], 50)
        places.sign("ann", "p", 9, 10, 0)
        places.sign("ann", "q", 1, 11, 0)
        places.sign("bob", "p", 2, 12, 0)
        places.sign("bob", "q", 3, 13, 0)
        self.assertEqual(places.bindings(0), [("ann", "p", 10), ("ann", "q", 11), ("bob", "p", 12), ("bob", "q", 13)])


class OrderTest(unittest.TestCase):
    def test_in_the_order_of_the_lists(self):
        places = Places(["dan", "ann", "cat"], ["s", "p", "q"], 50)
        for user, place in [("ann", "q"), ("cat", "p"), ("dan", "q"), ("ann", "p"), ("dan", "s"), ("ann", "s")]:
            places.sign(user, place, 1, 9, 0)
        self.assertEqual([places.of("ann", 0), places.of("cat", 0), places.of("dan", 0)],
                         [["s", "p", "q"], ["p"], ["s", "q"]])
        self.assertEqual(places.bindings(0), [("dan", "s", 9), ("dan", "q", 9), ("ann", "s", 9), ("ann", "p", 9),
                                              ("ann", "q", 9), ("cat", "p", 9)])


class SharedTest(unittest.TestCase):
    def test_lists_that_are_changed_afterwards(self):
        users, stations = ["ann"], ["p"]
        places = Places(users, stations, 50)
        users.append("bob")
        stations.insert(0, "q")
        self.assertIsNone(places.sign("bob", "p", 1, 9, 0))
        self.assertIsNone(places.sign("ann", "q", 1, 9, 0))
        users.clear()
        stations.clear()
        self.assertEqual(places.sign("ann", "p", 1, 9, 0), 9)
        self.assertEqual(places.bindings(0), [("ann", "p", 9)])

    def test_lists_that_are_given_are_not_changed(self):
        users, stations = ["ann", "bob"], ["p", "q"]
        places = Places(users, stations, 50)
        places.sign("bob", "q", 1, 9, 0)
        places.sign("eve", "z", 1, 9, 0)
        self.assertEqual([users, stations], [["ann", "bob"], ["p", "q"]])

    def test_results_are_not_shared(self):
        places = Places(["ann"], ["p"], 50)
        places.sign("ann", "p", 1, 9, 0)
        places.of("ann", 0).append("q")
        places.bindings(0).append("x")
        self.assertEqual([places.of("ann", 0), places.bindings(0)], [["p"], [("ann", "p", 9)]])


class AnySignsTest(unittest.TestCase):
    def expected(self, signs, longest, now):
        """Return the ends of the bindings of a tick, told once more from all SIGNs."""
        ends, greatest = {}, {}
        for user, place, seq, stay, at in signs:
            if seq > greatest.get((user, place), -1):
                greatest[user, place] = seq
                ends[user, place] = at + min(stay, longest)
        return {key: end for key, end in ends.items() if now < end}

    def check(self, places, users, stations, ends, now):
        self.assertEqual(places.bindings(now), [(user, place, ends[user, place]) for user in users
                                                for place in stations if (user, place) in ends])
        for user in users + ["eve"]:
            self.assertEqual(places.of(user, now), [place for place in stations if (user, place) in ends])

    def test_any_signs(self):
        chance = random.Random(9)
        for _ in range(150):
            users = chance.sample(USERS, chance.randint(1, 4))
            stations = chance.sample(STATIONS, chance.randint(1, 4))
            longest = chance.choice([1, 5, 40, 9999])
            places, signs, now = Places(users, stations, longest), [], 0
            for _ in range(60):
                now += chance.choice([0, 0, 1, 1, 5, 30])
                user, place = chance.choice(USERS), chance.choice(STATIONS)
                seq, stay = chance.randint(0, 12), chance.choice([0, 1, 5, 6, 40, 41, 9999, chance.randint(0, 60)])
                known = user in users and place in stations
                self.assertEqual(places.sign(user, place, seq, stay, now), min(stay, longest) if known else None)
                if known:
                    signs.append((user, place, seq, stay, now))
                ends = self.expected(signs, longest, now)
                for at in [now] + sorted([end + more for end in ends.values() for more in (-1, 0, 1)]):
                    self.check(places, users, stations, self.expected(signs, longest, max(at, now)), max(at, now))


class ExampleTest(unittest.TestCase):
    def test_example(self):
        places = Places(["ann", "bob"], ["p", "q"], 50)
        self.assertEqual([places.sign("bob", "q", 1, 80, 10), places.sign("bob", "p", 1, 5, 10),
                          places.sign("bob", "p", 1, 9, 11)], [50, 5, 9])
        self.assertEqual([places.of("bob", 14), places.of("bob", 15), places.sign("eve", "p", 1, 5, 0)],
                         [["p", "q"], ["q"], None])
