"""Promise 6: check."""

import unittest

from tests.lines import (
    ALL_FAIL, CLEAN_RUN, FAILED_RUN, FAR, FLAKY, FLAKY_RUN, LOOKS, TWO_TRIES, ask, assert_refused, behind, last)

# At revision 5 the tests 1 and 3 fail, test 2 passes at its second try, and 0 and 4 pass at once.
FIVE = [TWO_TRIES, ("tests", 5), ("tell", 1, 5, ALL_FAIL), ("tell", 2, 5, FLAKY), ("tell", 3, 5, ALL_FAIL)]
# One flaky run brings a test in, one clean run brings it out; at 0 the one test fails and is flaky,
# at 1 it fails and is clean, at 2 it passes and is flaky, at 3 it passes and is clean.
QUICK = [("policy", 2, 3, 1, 1, 1), ("tests", 1), ("tell", 0, 0, [1, 0, 0]), ("tell", 0, 1, [0]),
         ("tell", 0, 2, [1, 0, 1])]


def all_failing(n):
    return [("tests", n)] + [("tell", x, 7, ALL_FAIL) for x in range(n)]


class Verdict(unittest.TestCase):
    def test_without_tests(self):
        for before in ([], [("tests", 0)], [*FIVE, ("hold", 1, 1), ("tests", 0)]):
            for v in (0, 5, 999):
                self.assertEqual(last(*before, ("check", v)), [1, 0, 0, 0])

    def test_all_pass(self):
        for n in range(13):
            for need in (1, 3, 9):
                with self.subTest(n=n, need=need):
                    line = [("policy", need, 9, 10, 2, 5), ("tests", n), ("check", 999)]
                    self.assertEqual(last(*line), [1, n * need, 0, 0])

    def test_failing_tests_out_of_quarantine(self):
        self.assertEqual(last(*FIVE, ("check", 5)), [0, 8, 2, 1, 3, 0])

    def test_failing_tests_in_quarantine(self):
        self.assertEqual(last(*FIVE, ("hold", 3, 1), ("hold", 1, 1), ("check", 5)), [1, 8, 0, 2, 1, 3])

    def test_failing_tests_in_quarantine_and_out_of_it(self):
        self.assertEqual(last(*FIVE, ("hold", 3, 1), ("check", 5)), [0, 8, 1, 1, 1, 3])
        self.assertEqual(last(*FIVE, ("hold", 1, 1), ("check", 5)), [0, 8, 1, 3, 1, 1])

    def test_tests_that_pass_are_not_told_whether_in_quarantine_or_not(self):
        everyone = [("hold", x, 1) for x in range(5)]
        self.assertEqual(last(*FIVE, *everyone, ("check", 5)), [1, 8, 0, 2, 1, 3])
        self.assertEqual(last(*FIVE, *everyone, ("check", 6)), [1, 5, 0, 0])
        self.assertEqual(last(*FIVE, ("check", 4)), [1, 5, 0, 0])

    def test_12_tests(self):
        line = all_failing(12)
        everyone = list(range(12))
        self.assertEqual(last(*line, ("check", 7)), [0, 12, 12, *everyone, 0])
        held = [("hold", x, 1) for x in everyone]
        self.assertEqual(last(*line, *held, ("check", 7)), [1, 12, 0, 12, *everyone])
        self.assertEqual(last(*line, *held[::-2], ("check", 7)), [0, 12, 6, *everyone[::2], 6, *everyone[1::2]])
        self.assertEqual(last(*line, *held[:11], ("check", 7)), [0, 12, 1, 11, 11, *everyone[:11]])

    def test_a_flaky_run_may_have_failed_or_passed(self):
        self.assertEqual(last(*QUICK, ("check", 0)), [0, 3, 1, 0, 0])
        self.assertEqual(last(*QUICK, ("check", 2)), [1, 3, 0, 0])

    def test_the_rules_of_now_decide(self):
        self.assertEqual(
            behind(FIVE, [("check", 5), ("policy", 1, 1, 10, 2, 5), ("check", 5), ("policy", 2, 9, 10, 2, 5),
                          ("check", 5)]),
            [[0, 8, 2, 1, 3, 0], [0], [0, 5, 3, 1, 2, 3, 0], [0], [0, 24, 2, 1, 3, 0]])


class Moves(unittest.TestCase):
    def test_a_test_that_comes_into_quarantine_by_the_check_still_stops_it(self):
        self.assertEqual(
            behind(QUICK, [("check", 0), ("held",), ("check", 0)]), [[0, 3, 1, 0, 0], [1, 0], [1, 3, 0, 1, 0]])

    def test_a_test_that_comes_out_by_the_check_does_not_stop_it(self):
        self.assertEqual(
            behind(QUICK, [("check", 0), ("check", 1), ("held",), ("check", 1)]),
            [[0, 3, 1, 0, 0], [1, 2, 0, 1, 0], [0], [0, 2, 1, 0, 0]])

    def test_moves_of_passing_tests(self):
        self.assertEqual(
            behind(QUICK, [("check", 2), ("held",), ("check", 3), ("held",)]),
            [[1, 3, 0, 0], [1, 0], [1, 2, 0, 0], [0]])

    def test_some_come_in_while_others_come_out(self):
        line = [("policy", 2, 3, 1, 1, 1), ("tests", 4)]
        line += [("tell", x, 0, bits) for x, bits in enumerate([[1, 0, 0], [0], [1, 0, 0], [0]])]
        line += [("hold", 1, 1), ("hold", 2, 1)]
        self.assertEqual(
            behind(line, [("check", 0), ("held",), ("check", 0), ("held",)]),
            [[0, 10, 2, 0, 3, 2, 1, 2], [2, 0, 2], [0, 10, 2, 1, 3, 2, 0, 2], [2, 0, 2]])


class Kept(unittest.TestCase):
    def test_all_runs_are_kept(self):
        runs = [CLEAN_RUN, FAILED_RUN, FLAKY_RUN, FAILED_RUN, CLEAN_RUN]
        for x, made in enumerate(runs):
            with self.subTest(x=x):
                self.assertEqual(behind(FIVE, [("check", 5), ("history", x), ("score", x)])[1:],
                                 [[1, 5, *made], [0, 1, 1 - made[3], made[3]]])

    def test_a_check_keeps_what_a_run_of_each_test_keeps(self):
        for before in (FIVE, [*FIVE, ("hold", 2, 1), ("run", 3, 5)], [*QUICK, ("run", 0, 0)]):
            n = [call[1] for call in before if call[0] == "tests"][0]
            for v in (0, 5):
                checks = [("check", v)] * 3
                runs = [("run", x, v) for x in range(n)] * 3
                self.assertEqual(behind([*before, *checks], LOOKS), behind([*before, *runs], LOOKS))

    def test_the_65th_check_puts_the_oldest_runs_out(self):
        line = [("tests", 2)] + [("check", v) for v in range(65)]
        for x in (0, 1):
            given = last(*line, ("history", x))
            self.assertEqual((given[0], given[1::5]), (64, list(range(64, 0, -1))))
            self.assertEqual(last(*line, ("score", x)), [0, 64, 0, 64])

    def test_what_is_told_and_the_rules_stay(self):
        probes = [("outcome", 1, 5, 0), ("outcome", 2, 5, 1), ("dry", 2, 5), ("odds", 1, 2), ("tell", 4, 4, [1])]
        self.assertEqual(behind([*FIVE, ("check", 5), ("check", 5)], probes), behind(FIVE, probes))


class Refused(unittest.TestCase):
    def test_v_is_not_a_revision(self):
        for before in ([], FIVE, [*FIVE, ("check", 5), ("hold", 1, 1), ("check", 5)], QUICK):
            for v in (-1, 1000, -2, 1001, -FAR, FAR):
                assert_refused(self, -1, before, ("check", v), [("check", 5), ("held",), ("check", 0)])

    def test_both_ends_are_revisions(self):
        for v in (0, 999):
            self.assertEqual(ask(("tests", 1), ("tell", 0, v, ALL_FAIL), ("check", v))[-1], [0, 1, 1, 0, 0])


if __name__ == "__main__":
    unittest.main()
