"""Promise 9: odds."""

import itertools
import math
import unittest

from tests.lines import FAR, FLAKY, LOOKS, TWO_TRIES, ask, assert_refused, behind, last

ALL_RULES = [(need, most) for most in range(1, 10) for need in range(1, most + 1)]


def rules(need, most):
    return ("policy", need, most, 10, 2, 5)


def run_passes(need, most, tries):
    """Go through the tries until the run is decided, as the document tells it."""
    passed = failed = 0
    for outcome in tries:
        passed += outcome
        failed += 1 - outcome
        if passed == need:
            return True
        if failed > most - need:
            return False
    raise AssertionError("not decided within the most tries")


def counted(need, most, chances):
    """Count, for each chance a over q, all outcomes of most tries, each as often as its tries come so."""
    passing = [tries for tries in itertools.product((0, 1), repeat=most) if run_passes(need, most, tries)]
    expected = []
    for a, q in chances:
        ways = sum(a ** sum(tries) * (q - a) ** (most - sum(tries)) for tries in passing)
        divisor = math.gcd(ways, q ** most)
        expected.append([ways // divisor, q ** most // divisor])
    return expected


class Counted(unittest.TestCase):
    def test_every_need_and_most_against_a_count_of_all_outcomes(self):
        chances = [(a, q) for q in range(1, 8) for a in range(q + 1)]
        chances += [(0, 1000), (1, 1000), (500, 1000), (999, 1000), (1000, 1000), (6, 9), (499, 998), (7, 997)]
        for need, most in ALL_RULES:
            with self.subTest(need=need, most=most):
                asked = [("odds", a, q) for a, q in chances]
                self.assertEqual(behind([rules(need, most)], asked), counted(need, most, chances))

    def test_every_way_one_by_one(self):
        # Each try passes in a of q ways: all ways of all tries, counted without any multiplying.
        for a, q, most in ((1, 3, 5), (2, 3, 5), (3, 4, 4), (1, 2, 7), (4, 6, 3)):
            for need in range(1, most + 1):
                all_ways = list(itertools.product([1] * a + [0] * (q - a), repeat=most))
                passing = len([tries for tries in all_ways if run_passes(need, most, tries)])
                divisor = math.gcd(passing, len(all_ways))
                self.assertEqual(
                    behind([rules(need, most)], [("odds", a, q)]), [[passing // divisor, len(all_ways) // divisor]])

    def test_with_even_chances_it_is_the_share_of_runs_that_pass(self):
        for need, most in ((1, 1), (2, 3), (3, 5), (1, 6), (6, 6), (4, 7)):
            calls = [rules(need, most), ("tests", 1)]
            for bits in itertools.product((0, 1), repeat=most):
                calls += [("tell", 0, 0, list(bits)), ("dry", 0, 0)]
            given = ask(*calls)[3::2]
            passing = sum(run[0] for run in given)
            divisor = math.gcd(passing, 2 ** most)
            self.assertEqual(last(rules(need, most), ("odds", 1, 2)), [passing // divisor, 2 ** most // divisor])


class Written(unittest.TestCase):
    def test_by_the_rules_of_the_beginning(self):
        self.assertEqual(ask(("odds", 1, 2), ("odds", 3, 7), ("odds", 999, 1000)), [[1, 2], [3, 7], [999, 1000]])

    def test_by_other_rules(self):
        self.assertEqual(last(rules(1, 2), ("odds", 1, 2)), [3, 4])
        self.assertEqual(last(rules(2, 2), ("odds", 1, 3)), [1, 9])
        self.assertEqual(last(rules(2, 3), ("odds", 1, 3)), [7, 27])
        self.assertEqual(last(rules(2, 3), ("odds", 2, 3)), [20, 27])
        self.assertEqual(last(rules(5, 9), ("odds", 1, 2)), [1, 2])

    def test_by_the_rules_of_now(self):
        self.assertEqual(
            ask(("odds", 1, 2), rules(1, 2), ("odds", 1, 2), rules(2, 2), ("odds", 1, 2), rules(3, 2), ("odds", 1, 2)),
            [[1, 2], [0], [3, 4], [0], [1, 4], [-1], [1, 4]])

    def test_in_lowest_terms(self):
        self.assertEqual(ask(("odds", 2, 4), ("odds", 500, 1000), ("odds", 6, 8)), [[1, 2], [1, 2], [3, 4]])
        self.assertEqual(last(rules(2, 3), ("odds", 2, 4)), [1, 2])
        self.assertEqual(last(rules(1, 2), ("odds", 250, 1000)), [7, 16])

    def test_0_is_0_over_1_and_1_is_1_over_1(self):
        for need, most in ALL_RULES:
            for q in (1, 2, 10, 999, 1000):
                with self.subTest(need=need, most=most, q=q):
                    self.assertEqual(behind([rules(need, most)], [("odds", 0, q), ("odds", q, q)]), [[0, 1], [1, 1]])

    def test_the_longest_numbers(self):
        self.assertEqual(last(rules(9, 9), ("odds", 1, 1000)), [1, 10 ** 27])
        self.assertEqual(last(rules(1, 9), ("odds", 1, 1000)), [10 ** 27 - 999 ** 9, 10 ** 27])
        self.assertEqual(last(rules(9, 9), ("odds", 997, 1000)), [997 ** 9, 10 ** 27])

    def test_it_needs_no_tests_and_looks_at_none(self):
        for before in ([], [("tests", 0)], [("tests", 1), ("tell", 0, 0, [0]), ("hold", 0, 1), ("run", 0, 0)]):
            self.assertEqual(last(*before, ("odds", 2, 3)), [2, 3])

    def test_window_limit_and_calm_do_not_count(self):
        for others in ((1, 1, 1), (20, 20, 20), (20, 1, 7)):
            self.assertEqual(last(("policy", 2, 3, *others), ("odds", 1, 3)), [7, 27])

    def test_it_changes_nothing(self):
        before = [TWO_TRIES, ("tests", 2), ("tell", 0, 0, FLAKY), ("run", 0, 0), ("hold", 1, 1), ("check", 0)]
        self.assertEqual(behind([*before, ("odds", 1, 2)], LOOKS), behind(before, LOOKS))


class Refused(unittest.TestCase):
    before = [TWO_TRIES, ("tests", 2), ("tell", 0, 0, FLAKY), ("run", 0, 0), ("hold", 1, 1), ("run", 1, 0)]

    def refuse(self, a, q):
        assert_refused(self, -1, self.before, ("odds", a, q), [("odds", 1, 2), ("run", 0, 0), ("check", 0), ("held",)])

    def test_a_is_not_from_0_to_q(self):
        for q in (1, 2, 7, 1000):
            for a in (-1, q + 1, -2, q + 2, 2 * q + 1, -q, -FAR, FAR):
                self.refuse(a, q)

    def test_q_is_not_from_1_to_1000(self):
        for q in (0, 1001, -1, 1002, -1000, -FAR, FAR):
            for a in (0, 1, q, -1, FAR):
                self.refuse(a, q)

    def test_the_ends_are_answered(self):
        self.assertEqual(
            ask(("odds", 0, 1), ("odds", 1, 1), ("odds", 0, 1000), ("odds", 1000, 1000)), [[0, 1], [1, 1]] * 2)


if __name__ == "__main__":
    unittest.main()
