"""Promise 5: what dry and run make of the tries."""

import unittest

from tests.lines import (
    ALL_FAIL, CLEAN_RUN, FAILED_RUN, FAR, FLAKY, FLAKY_RUN, TWO_TRIES, ask, assert_refused, behind, held_after, last)


def both(need, most, outcomes):
    """Give the run that dry tells and the one that run tells."""
    line = [("policy", need, most, 20, 20, 20), ("tests", 1), ("tell", 0, 4, outcomes), ("dry", 0, 4), ("run", 0, 4)]
    dry, run = ask(*line)[-2:]
    return dry, run


class Decided(unittest.TestCase):
    def check(self, need, most, outcomes, expected):
        with self.subTest(need=need, most=most, outcomes=outcomes):
            self.assertEqual(both(need, most, outcomes), (expected, expected + [0]))

    def test_one_try(self):
        self.check(1, 1, [1], [1, 1, 1, 1])
        self.check(1, 1, [0], [0, 1, 0, 1])
        self.check(1, 1, [0, 1], [0, 1, 0, 1])
        self.check(1, 1, [1, 0], [1, 1, 1, 1])

    def test_it_stops_as_soon_as_it_has_passed(self):
        self.check(1, 9, [1, 0], [1, 1, 1, 1])
        self.check(2, 9, [1, 1, 0], [1, 2, 2, 1])
        self.check(2, 9, [1, 0, 1, 0], [1, 3, 2, 0])
        self.check(3, 5, [0, 1, 0, 1, 1], [1, 5, 3, 0])
        self.check(9, 9, [1], [1, 9, 9, 1])
        self.check(1, 9, [0, 0, 0, 0, 0, 0, 0, 0, 1], [1, 9, 1, 0])

    def test_it_stops_as_soon_as_it_has_failed(self):
        self.check(9, 9, [0], [0, 1, 0, 1])
        self.check(9, 9, [1, 1, 1, 1, 1, 1, 1, 1, 0], [0, 9, 8, 0])
        self.check(1, 9, [0], [0, 9, 0, 1])
        self.check(2, 3, [0], [0, 2, 0, 1])
        self.check(2, 3, [1, 0, 0], [0, 3, 1, 0])
        self.check(2, 3, [0, 1, 0], [0, 3, 1, 0])
        self.check(3, 5, [1, 0, 1, 0, 0], [0, 5, 2, 0])
        self.check(8, 9, [0, 1, 0], [0, 3, 1, 0])

    def test_the_outcomes_are_taken_again_within_a_run(self):
        self.check(3, 9, [0, 0, 1], [1, 9, 3, 0])
        self.check(5, 9, [1, 0], [1, 9, 5, 0])
        self.check(5, 9, [0, 1], [0, 9, 4, 0])
        self.check(4, 9, [1, 1, 0], [1, 5, 4, 0])

    def test_untold_every_try_passes(self):
        line = [("policy", 4, 7, 10, 2, 5), ("tests", 1), ("tell", 0, 4, [0])]
        self.assertEqual(behind(line, [("dry", 0, 5), ("run", 0, 3), ("dry", 0, 4)]),
                         [[1, 4, 4, 1], [1, 4, 4, 1, 0], [0, 4, 0, 1]])

    def test_every_run_begins_at_try_0(self):
        line = [TWO_TRIES, ("tests", 1), ("tell", 0, 0, [0, 1, 1])]
        calls = [("dry", 0, 0), ("run", 0, 0), ("dry", 0, 0), ("run", 0, 0)]
        self.assertEqual(behind(line, calls), [FLAKY_RUN, FLAKY_RUN + [0], FLAKY_RUN, FLAKY_RUN + [1]])

    def test_revisions_at_both_ends(self):
        line = [TWO_TRIES, ("tests", 12), ("tell", 11, 0, FLAKY), ("tell", 11, 999, ALL_FAIL)]
        calls = [("dry", 11, 0), ("dry", 11, 999), ("run", 11, 0), ("run", 11, 999), ("run", 0, 0)]
        self.assertEqual(
            behind(line, calls), [FLAKY_RUN, FAILED_RUN, FLAKY_RUN + [0], FAILED_RUN + [0], CLEAN_RUN + [0]])


class Kept(unittest.TestCase):
    line = [TWO_TRIES, ("tests", 2), ("tell", 0, 0, FLAKY), ("tell", 1, 0, FLAKY)]

    def test_dry_is_not_kept(self):
        dry = [("dry", 0, 0)] * 30
        self.assertEqual(held_after(*self.line, *dry, ("run", 0, 0), *dry, ("run", 0, 1), ("run", 0, 0)), [0, 0, 1])

    def test_dry_does_not_calm(self):
        calm = [("dry", 0, 1)] * 30
        into = [*self.line, ("run", 0, 0), ("run", 0, 0)]
        self.assertEqual(held_after(*into, *calm, *[("run", 0, 1)] * 5), [0, 1, 1, 1, 1, 1, 0])

    def test_dry_breaks_no_calm(self):
        into = [*self.line, ("run", 0, 0), ("run", 0, 0)]
        calming = [("run", 0, 1), ("dry", 0, 0)] * 5
        self.assertEqual(held_after(*into, *calming), [0, 1, 1, 1, 1, 1, 0])

    def test_a_test_in_quarantine_is_run_like_any_other(self):
        into = [*self.line, ("run", 0, 0), ("run", 0, 0)]
        self.assertEqual(last(*into, ("dry", 0, 0)), FLAKY_RUN)
        self.assertEqual(last(*into, ("run", 0, 0)), FLAKY_RUN + [1])

    def test_telling_anew_does_not_change_kept_runs(self):
        line = [*self.line, ("run", 0, 0), ("tell", 0, 0, [1]), ("run", 0, 0), ("tell", 0, 0, FLAKY), ("run", 0, 0)]
        self.assertEqual(held_after(*line), [0, 0, 1])


class Refused(unittest.TestCase):
    def test_x_is_not_a_test_or_v_not_a_revision(self):
        before = [*Kept.line, ("run", 0, 0), ("run", 1, 0), ("run", 1, 0)]
        probes = [("dry", 0, 0), ("run", 1, 5), ("run", 1, 5), ("run", 1, 5), ("run", 1, 5), ("run", 1, 5), ("run", 0, 0)]
        wrong = [(-1, 0), (2, 0), (12, 0), (-2, 0), (-FAR, 0), (FAR, 0), (0, -1), (0, 1000), (1, 1000), (0, -FAR)]
        wrong += [(1, FAR), (-1, -1), (FAR, FAR), (-FAR, FAR)]
        for x, v in wrong:
            for call in ("dry", "run"):
                assert_refused(self, -1, before, (call, x, v), probes)

    def test_without_tests_every_number_is_refused(self):
        for before in ([], [("tests", 0)], [("tests", 3), ("tests", 0)]):
            for call in ("dry", "run"):
                assert_refused(self, -1, before, (call, 0, 0), [("tests", 1), ("run", 0, 0)])


if __name__ == "__main__":
    unittest.main()
