"""Many lines, made from written seeds, against a second telling of the document that is slow and plain."""

import functools
import itertools
import random
import unittest
from fractions import Fraction

from tests.lines import FAR, ask


@functools.cache
def chance(passes, failures, need, most, each):
    """Give the chance that a run passes which has come so far, try by try."""
    if passes == need:
        return Fraction(1)
    if failures > most - need:
        return Fraction(0)
    return (each * chance(passes + 1, failures, need, most, each)
            + (1 - each) * chance(passes, failures + 1, need, most, each))


class Model:
    """The document once more: nothing is cut off or counted ahead, all is looked up in what happened."""

    def __init__(self):
        self.rules = (1, 1, 10, 2, 5)
        self.tests = 0
        self.told = []
        self.kept = {}
        self.moves = {}

    def outcomes(self, x, v):
        found = [bits for where, bits in self.told if where == (x, v)]
        return found[0] if found else [1]

    def wrong(self, x, v):
        return x not in range(self.tests) or v not in range(1000)

    def policy(self, need, most, window, limit, calm):
        if need < 1 or need > most or most > 9 or limit < 1 or limit > window or window > 20:
            return [-1]
        if calm not in range(1, 21):
            return [-1]
        self.rules = (need, most, window, limit, calm)
        return [0]

    def begin(self, n):
        if n not in range(13):
            return [-1]
        self.tests = n
        self.told = []
        self.kept = {x: [] for x in range(n)}
        self.moves = {x: [0] for x in range(n)}
        return [n]

    def tell(self, x, v, bits):
        if self.wrong(x, v):
            return [-1]
        if len(bits) not in range(1, 13) or set(bits) - {0, 1}:
            return [-2]
        others = [entry for entry in self.told if entry[0] != (x, v)]
        if len(others) == 40:
            return [-7]
        self.told = others + [((x, v), bits)]
        return [len(self.told)]

    def outcome(self, x, v, k):
        if self.wrong(x, v) or k not in range(1000):
            return [-1]
        return [(self.outcomes(x, v) * 1000)[k]]

    def dry(self, x, v):
        if self.wrong(x, v):
            return [-1]
        need, most = self.rules[:2]
        all_tries = (self.outcomes(x, v) * 9)[:most]
        for many in range(1, most + 1):
            tries = all_tries[:many]
            if tries.count(1) == need or tries.count(0) > most - need:
                return [int(tries.count(1) == need), many, tries.count(1), int(len(set(tries)) == 1)]
        raise AssertionError("not decided within the most tries")

    def run(self, x, v):
        made = self.dry(x, v)
        if made == [-1]:
            return made
        window, limit, calm = self.rules[2:]
        self.kept[x].append([v, *made])
        since = self.clean_since(x)
        held = self.in_quarantine(x)
        if held:
            move = len(since) >= calm and all(since[-calm:])
        else:
            move = since[-window:].count(0) >= limit
        if move:
            self.moves[x].append(len(self.kept[x]))
        return made + [int(held != move)]

    def in_quarantine(self, x):
        return len(self.moves[x]) % 2 == 0

    def clean_since(self, x):
        """Say of each run since the last move whether it was clean, the last run at the end."""
        return [kept[4] for kept in self.kept[x][self.moves[x][-1]:]]

    def check(self, v):
        if v not in range(1000):
            return [-1]
        before = [self.in_quarantine(x) for x in range(self.tests)]
        made = [self.run(x, v) for x in range(self.tests)]
        failed = [x for x in range(self.tests) if made[x][0] == 0]
        out = [x for x in failed if not before[x]]
        held = [x for x in failed if before[x]]
        return [int(out == []), sum(run[1] for run in made), len(out), *out, len(held), *held]

    def history(self, x):
        if self.wrong(x, 0):
            return [-1]
        remembered = self.kept[x][::-1][:64]
        return [len(remembered), *itertools.chain(*remembered)]

    def score(self, x):
        if self.wrong(x, 0):
            return [-1]
        since = self.clean_since(x)[-64:]
        calm = list(itertools.takewhile(bool, since[::-1]))
        return [int(self.in_quarantine(x)), len(since), since[-self.rules[2]:].count(0), len(calm)]

    def held(self):
        found = [x for x in range(self.tests) if self.in_quarantine(x)]
        return [len(found), *found]

    def hold(self, x, on):
        if self.wrong(x, 0) or on not in (0, 1):
            return [-1]
        if self.in_quarantine(x) == bool(on):
            return [0]
        self.moves[x].append(len(self.kept[x]))
        return [1]

    def odds(self, a, q):
        if q not in range(1, 1001) or a not in range(q + 1):
            return [-1]
        found = chance(0, 0, *self.rules[:2], Fraction(a, q))
        return [found.numerator, found.denominator]

    def answer(self, call):
        return getattr(self, "begin" if call[0] == "tests" else call[0])(*call[1:])


# How often each call comes: enough runs that the 65th is met, and not so many moves by hand that no other is.
WEIGHTS = {"policy": 6, "tests": 1, "tell": 35, "outcome": 10, "dry": 10, "run": 60,
           "check": 30, "history": 10, "score": 25, "held": 10, "hold": 6, "odds": 10}


class Maker:
    """Makes calls that mostly fit, and now and then lie at an edge or beyond it."""

    def __init__(self, seed):
        self.random = random.Random(seed)
        self.tests = self.random.choice([1, 2, 3, 12])
        self.revisions = self.random.choice([2, 4, 30])

    def odd(self, usual, others):
        return self.random.choice(others) if self.random.random() < 0.04 else usual

    def x(self):
        return self.odd(self.random.randrange(self.tests), [-1, self.tests, 12, FAR, -FAR])

    def v(self):
        return self.odd(self.random.randrange(self.revisions), [-1, 0, 999, 1000, FAR, -FAR])

    def policy(self):
        most = self.random.randint(1, 9)
        window = self.random.randint(1, 20)
        rules = [self.random.randint(1, most), most, window, self.random.randint(1, min(window, 4)),
                 self.random.randint(1, 6)]
        return ("policy", *[self.odd(rule, [-1, 0, 1, 9, 10, 20, 21, FAR, -FAR]) for rule in rules])

    def tell(self):
        many = self.odd(self.random.randint(1, 12), [0, 12, 13, 20])
        bits = [self.random.randint(0, 1) for place in range(many)]
        if many:
            bits[0] = self.odd(bits[0], [-1, 2, FAR, -FAR])
        return ("tell", self.x(), self.v(), bits)

    def odds(self):
        q = self.odd(self.random.randint(1, self.random.choice([9, 1000])), [-1, 0, 1, 1000, 1001, FAR, -FAR])
        a = self.odd(self.random.randint(0, max(q, 0)), [-1, 0, q, q + 1, FAR, -FAR])
        return ("odds", a, q)

    def call(self):
        kind = self.random.choices(list(WEIGHTS), list(WEIGHTS.values()))[0]
        if kind in ("policy", "tell", "odds"):
            return getattr(self, kind)()
        if kind == "tests":
            return ("tests", self.odd(self.tests, [-1, 0, 12, 13, FAR, -FAR]))
        if kind == "held":
            return ("held",)
        if kind == "check":
            return ("check", self.v())
        if kind in ("history", "score"):
            return (kind, self.x())
        if kind == "hold":
            return ("hold", self.x(), self.odd(self.random.randint(0, 1), [-1, 2, FAR, -FAR]))
        if kind == "outcome":
            return ("outcome", self.x(), self.v(), self.odd(self.random.randrange(40), [-1, 999, 1000, FAR, -FAR]))
        return (kind, self.x(), self.v())

    def line(self):
        first = [self.policy(), ("tests", self.tests)]
        return first + [self.call() for place in range(self.random.choice([5, 60, 398]))]


REFUSALS = {("tell", -2), ("tell", -7)} | {(call, -1) for call in WEIGHTS if call != "held"}


class Lines(unittest.TestCase):
    def test_lines_against_the_model(self):
        met = set()
        for seed in range(300):
            calls = Maker(seed).line()
            model = Model()
            expected = [model.answer(call) for call in calls]
            for place, answer in enumerate(ask(*calls)):
                self.assertEqual(answer, expected[place], f"seed {seed}, call {place}: {calls[place]}")
            met |= {(call[0], answer[0]) for call, answer in zip(calls, expected)}
        self.assertEqual({(call, first) for call, first in met if first < 0}, REFUSALS)
        for call, firsts in (("check", (0, 1)), ("hold", (0, 1)), ("score", (0, 1)), ("history", (0, 63, 64))):
            for first in firsts:
                self.assertIn((call, first), met)


if __name__ == "__main__":
    unittest.main()
