"""Promise 7: history and score."""

import unittest

from tests.lines import (
    ALL_FAIL, CLEAN_RUN, FAILED_RUN, FAR, FLAKY, FLAKY_RUN, TWO_TRIES, assert_refused, behind, last)

# One test that at revision 0 is flaky, at 1 fails at every try, and else passes; no rule moves it before the 20th run.
ONE = [("policy", 1, 2, 20, 20, 20), ("tests", 1), ("tell", 0, 0, FLAKY), ("tell", 0, 1, ALL_FAIL)]
SORTS = {"F": 0, "X": 1, "C": 2}


def runs(sorts):
    return [("run", 0, SORTS[sort]) for sort in sorts]


def rules(window, limit, calm):
    return ("policy", 1, 2, window, limit, calm)


class History(unittest.TestCase):
    def test_no_run_is_kept_yet(self):
        self.assertEqual(last(*ONE, ("history", 0)), [0])
        self.assertEqual(last(*ONE, ("dry", 0, 0), ("outcome", 0, 0, 0), ("history", 0)), [0])

    def test_the_last_first_with_revision_and_run(self):
        self.assertEqual(
            last(*ONE, *runs("FXC"), ("run", 0, 999), ("history", 0)),
            [4, 999, *CLEAN_RUN, 2, *CLEAN_RUN, 1, *FAILED_RUN, 0, *FLAKY_RUN])

    def test_runs_as_long_as_the_rules_make_them(self):
        line = [("policy", 5, 9, 20, 20, 20), ("tests", 1), ("tell", 0, 0, [1, 0]), ("tell", 0, 1, [0, 1])]
        line += [("run", 0, v) for v in (0, 1, 2)]
        self.assertEqual(last(*line, ("history", 0)), [3, 2, 1, 5, 5, 1, 1, 0, 9, 4, 0, 0, 1, 9, 5, 0])

    def test_dry_runs_are_not_in_it(self):
        self.assertEqual(last(*ONE, ("run", 0, 0), ("dry", 0, 1), ("history", 0)), [1, 0, *FLAKY_RUN])

    def test_checks_are_in_it(self):
        self.assertEqual(last(*ONE, ("run", 0, 0), ("check", 1), ("history", 0)), [2, 1, *FAILED_RUN, 0, *FLAKY_RUN])

    def test_each_test_has_its_own(self):
        line = [("tests", 12), ("run", 11, 3), ("run", 0, 4), ("run", 11, 5)]
        self.assertEqual(behind(line, [("history", 0), ("history", 11), ("history", 5)]),
                         [[1, 4, *CLEAN_RUN], [2, 5, *CLEAN_RUN, 3, *CLEAN_RUN], [0]])

    def test_at_most_64(self):
        for many in (63, 64, 65, 66, 130, 390):
            with self.subTest(many=many):
                line = [("tests", 1)] + [("run", 0, v) for v in range(many)]
                expected = [min(many, 64)]
                for v in list(range(many))[::-1][:64]:
                    expected += [v, *CLEAN_RUN]
                self.assertEqual(last(*line, ("history", 0)), expected)

    def test_what_changes_later_leaves_it(self):
        kept = [*ONE, *runs("FXC")]
        for later in ([("policy", 2, 3, 1, 1, 1)], [("tell", 0, 0, [1]), ("tell", 0, 1, [1])], [("hold", 0, 1)],
                      [("hold", 0, 1), ("hold", 0, 0)], [("history", 0), ("score", 0), ("held",), ("odds", 1, 2)]):
            with self.subTest(later=later):
                self.assertEqual(last(*kept, *later, ("history", 0)), last(*kept, ("history", 0)))

    def test_it_goes_on_through_quarantine(self):
        line = [TWO_TRIES, *ONE[1:], *runs("FF"), *runs("CCCCC"), *runs("F")]
        calm = [2, *CLEAN_RUN] * 5
        flaky = [0, *FLAKY_RUN]
        self.assertEqual(last(*line, ("history", 0)), [8, *flaky, *calm, *flaky, *flaky])

    def test_it_is_empty_after_tests(self):
        self.assertEqual(behind([*ONE, *runs("FX")], [("tests", 1), ("history", 0), ("score", 0)]), [[1], [0], [0] * 4])


class Score(unittest.TestCase):
    def check(self, line, expected):
        with self.subTest(line=line):
            self.assertEqual(last(*ONE, *line, ("score", 0)), expected)

    def test_no_run_is_kept_yet(self):
        self.check([], [0, 0, 0, 0])
        self.check([("dry", 0, 0)], [0, 0, 0, 0])

    def test_count_score_and_calm(self):
        self.check(runs("F"), [0, 1, 1, 0])
        self.check(runs("C"), [0, 1, 0, 1])
        self.check(runs("X"), [0, 1, 0, 1])
        self.check(runs("FC"), [0, 2, 1, 1])
        self.check(runs("CF"), [0, 2, 1, 0])
        self.check(runs("FCXFXCX"), [0, 7, 2, 3])
        self.check(runs("CCXX"), [0, 4, 0, 4])

    def test_the_score_reaches_as_far_as_the_window(self):
        for window, score in ((1, 0), (2, 1), (3, 1), (4, 1), (5, 2), (6, 3), (20, 3)):
            self.check([*runs("FFCCFC"), rules(window, window, 20)], [0, 6, score, 1])

    def test_the_calm_reaches_further_than_the_window_and_the_rule(self):
        self.check([rules(1, 1, 1), *runs("C" * 30)], [0, 30, 0, 30])
        self.check([*runs("F" + "C" * 63)], [0, 64, 0, 63])

    def test_a_count_that_is_less_than_the_window(self):
        self.check([*runs("FFF"), ("hold", 0, 1), *runs("FC")], [1, 2, 1, 1])
        self.check([*runs("FFF"), ("hold", 0, 1), *runs("FC"), ("hold", 0, 0), *runs("C")], [0, 1, 0, 1])

    def test_a_count_that_is_less_than_the_runs_remembered(self):
        self.check([*runs("CCCC"), ("hold", 0, 1)], [1, 0, 0, 0])
        self.check([*runs("CCCC"), ("hold", 0, 1), *runs("CX")], [1, 2, 0, 2])
        self.check([*runs("FFFF"), ("hold", 0, 1)], [1, 0, 0, 0])
        self.check([*runs("C" * 64), ("hold", 0, 1), *runs("C" * 3)], [1, 3, 0, 3])

    def test_at_a_count_of_64_and_after_more_runs(self):
        self.check(runs("C" * 63), [0, 63, 0, 63])
        self.check(runs("C" * 64), [0, 64, 0, 64])
        self.check(runs("C" * 65), [0, 64, 0, 64])
        self.check(runs("C" * 200), [0, 64, 0, 64])
        self.check(runs("F" + "C" * 64), [0, 64, 0, 64])
        self.check(runs("C" * 70 + "FC"), [0, 64, 1, 1])
        self.check([*runs("C" * 70), ("hold", 0, 1), *runs("C")], [1, 1, 0, 1])

    def test_after_policy_was_called_anew(self):
        kept = runs("FCFFC")
        self.check([*kept, rules(2, 2, 20)], [0, 5, 1, 1])
        self.check([*kept, rules(3, 1, 1)], [0, 5, 2, 1])
        self.check([*kept, rules(3, 1, 1), rules(20, 20, 20)], [0, 5, 3, 1])
        self.check([("hold", 0, 1), *runs("CCC"), rules(2, 2, 1)], [1, 3, 0, 3])

    def test_policy_anew_moves_only_when_a_run_is_kept(self):
        self.check([*runs("FF"), rules(20, 2, 20), *runs("C")], [1, 0, 0, 0])
        self.check([("hold", 0, 1), *runs("CCC"), rules(2, 2, 1), *runs("C")], [0, 0, 0, 0])

    def test_a_move_by_a_run_begins_the_count_anew(self):
        self.check([rules(20, 2, 2), *runs("F")], [0, 1, 1, 0])
        self.check([rules(20, 2, 2), *runs("FF")], [1, 0, 0, 0])
        self.check([rules(20, 2, 2), *runs("FFF")], [1, 1, 1, 0])
        self.check([rules(20, 2, 2), *runs("FFFC")], [1, 2, 1, 1])
        self.check([rules(20, 2, 2), *runs("FFFCX")], [0, 0, 0, 0])
        self.check([rules(20, 2, 2), *runs("FFFCXC")], [0, 1, 0, 1])

    def test_the_score_in_quarantine_may_go_beyond_the_limit(self):
        self.check([rules(5, 2, 20), *runs("FF" + "F" * 8)], [1, 8, 5, 0])

    def test_each_test_has_its_own(self):
        line = [TWO_TRIES, ("tests", 12), ("tell", 11, 0, FLAKY), ("run", 11, 0), ("run", 0, 0), ("run", 0, 0),
                ("hold", 5, 1), ("run", 5, 0)]
        self.assertEqual(behind(line, [("score", x) for x in (0, 11, 5, 4)]),
                         [[0, 2, 0, 2], [0, 1, 1, 0], [1, 1, 0, 1], [0, 0, 0, 0]])


class Refused(unittest.TestCase):
    def test_x_is_not_a_test(self):
        before = [TWO_TRIES, ("tests", 3), ("tell", 2, 0, FLAKY), ("run", 2, 0), ("run", 2, 0), ("run", 0, 5)]
        for x in (-1, 3, 12, -3, 2 ** 32, -FAR, FAR):
            for call in ("history", "score"):
                assert_refused(self, -1, before, (call, x), [("run", 2, 0), ("check", 0)])

    def test_without_tests_every_number_is_refused(self):
        for before in ([], [("tests", 0)], [("tests", 3), ("run", 0, 0), ("tests", 0)]):
            for x in (0, -1, 1):
                for call in ("history", "score"):
                    assert_refused(self, -1, before, (call, x), [("tests", 1), ("run", 0, 0)])

    def test_the_12th_is_a_test_and_the_13th_is_not(self):
        for call, answer in (("history", [0]), ("score", [0, 0, 0, 0])):
            self.assertEqual(behind([("tests", 12)], [(call, 11), (call, 12)]), [answer, [-1]])


if __name__ == "__main__":
    unittest.main()
