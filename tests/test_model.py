"""Many lines, made from written seeds, against a second telling of the document that is slow and plain."""

import random
import unittest

from tests.lines import FAR, ask


class Model:
    """The document once more: nothing is cut off or counted ahead, all is looked up in what happened."""

    def __init__(self):
        self.rules = (1, 1, 10, 2, 5)
        self.tests = 0
        self.told = []
        self.kept = {}
        self.moves = {}

    def outcomes(self, x, v):
        found = [bits for where, bits in self.told if where == (x, v)]
        return found[0] if found else [1]

    def wrong(self, x, v):
        return x not in range(self.tests) or v not in range(1000)

    def policy(self, need, most, window, limit, calm):
        if need < 1 or need > most or most > 9 or limit < 1 or limit > window or window > 20:
            return [-1]
        if calm not in range(1, 21):
            return [-1]
        self.rules = (need, most, window, limit, calm)
        return [0]

    def begin(self, n):
        if n not in range(13):
            return [-1]
        self.tests = n
        self.told = []
        self.kept = {x: [] for x in range(n)}
        self.moves = {x: [0] for x in range(n)}
        return [n]

    def tell(self, x, v, bits):
        if self.wrong(x, v):
            return [-1]
        if len(bits) not in range(1, 13) or set(bits) - {0, 1}:
            return [-2]
        others = [entry for entry in self.told if entry[0] != (x, v)]
        if len(others) == 40:
            return [-7]
        self.told = others + [((x, v), bits)]
        return [len(self.told)]

    def outcome(self, x, v, k):
        if self.wrong(x, v) or k not in range(1000):
            return [-1]
        return [(self.outcomes(x, v) * 1000)[k]]

    def dry(self, x, v):
        if self.wrong(x, v):
            return [-1]
        need, most = self.rules[:2]
        all_tries = (self.outcomes(x, v) * 9)[:most]
        for many in range(1, most + 1):
            tries = all_tries[:many]
            if tries.count(1) == need or tries.count(0) > most - need:
                return [int(tries.count(1) == need), many, tries.count(1), int(len(set(tries)) == 1)]
        raise AssertionError("not decided within the most tries")

    def run(self, x, v):
        made = self.dry(x, v)
        if made == [-1]:
            return made
        window, limit, calm = self.rules[2:]
        self.kept[x].append(made[3])
        since = self.kept[x][self.moves[x][-1]:]
        held = len(self.moves[x]) % 2 == 0
        if held:
            move = len(since) >= calm and all(since[-calm:])
        else:
            move = since[-window:].count(0) >= limit
        if move:
            self.moves[x].append(len(self.kept[x]))
        return made + [int(held != move)]

    def answer(self, call):
        return getattr(self, "begin" if call[0] == "tests" else call[0])(*call[1:])


class Maker:
    """Makes calls that mostly fit, and now and then lie at an edge or beyond it."""

    def __init__(self, seed):
        self.random = random.Random(seed)
        self.tests = self.random.choice([1, 2, 3, 12])
        self.revisions = self.random.choice([2, 4, 30])

    def odd(self, usual, others):
        return self.random.choice(others) if self.random.random() < 0.04 else usual

    def x(self):
        return self.odd(self.random.randrange(self.tests), [-1, self.tests, 12, FAR, -FAR])

    def v(self):
        return self.odd(self.random.randrange(self.revisions), [-1, 0, 999, 1000, FAR, -FAR])

    def policy(self):
        most = self.random.randint(1, 9)
        window = self.random.randint(1, 20)
        rules = [self.random.randint(1, most), most, window, self.random.randint(1, min(window, 4)),
                 self.random.randint(1, 6)]
        return ("policy", *[self.odd(rule, [-1, 0, 1, 9, 10, 20, 21, FAR, -FAR]) for rule in rules])

    def tell(self):
        many = self.odd(self.random.randint(1, 12), [0, 12, 13, 20])
        bits = [self.random.randint(0, 1) for place in range(many)]
        if many:
            bits[0] = self.odd(bits[0], [-1, 2, FAR, -FAR])
        return ("tell", self.x(), self.v(), bits)

    def call(self):
        kind = self.random.choices(["policy", "tests", "tell", "outcome", "dry", "run"], [6, 1, 35, 10, 10, 90])[0]
        if kind == "policy":
            return self.policy()
        if kind == "tests":
            return ("tests", self.odd(self.tests, [-1, 0, 12, 13, FAR, -FAR]))
        if kind == "tell":
            return self.tell()
        if kind == "outcome":
            return ("outcome", self.x(), self.v(), self.odd(self.random.randrange(40), [-1, 999, 1000, FAR, -FAR]))
        return (kind, self.x(), self.v())

    def line(self):
        first = [self.policy(), ("tests", self.tests)]
        return first + [self.call() for place in range(self.random.choice([5, 60, 398]))]


class Lines(unittest.TestCase):
    def test_lines_against_the_model(self):
        met = set()
        for seed in range(300):
            calls = Maker(seed).line()
            model = Model()
            expected = [model.answer(call) for call in calls]
            for place, answer in enumerate(ask(*calls)):
                self.assertEqual(answer, expected[place], f"seed {seed}, call {place}: {calls[place]}")
            met |= {(call[0], answer[0]) for call, answer in zip(calls, expected) if answer[0] < 0}
            met |= {answer[-1] for call, answer in zip(calls, expected) if call[0] == "run" and answer[0] >= 0}
        self.assertEqual(met, {0, 1, ("policy", -1), ("tests", -1), ("tell", -1), ("tell", -2), ("tell", -7),
                               ("outcome", -1), ("dry", -1), ("run", -1)})


if __name__ == "__main__":
    unittest.main()
