"""Promise 1: policy."""

import unittest

from tests.lines import CLEAN_RUN, FAR, FLAKY, TWO_TRIES, ask, assert_refused, behind, held_after, last
from triesroom.room import Room

TOLD = [("tests", 1), ("tell", 0, 0, [0, 1, 1, 0, 0, 1, 0, 1, 1, 1]), ("tell", 0, 1, FLAKY)]
# Runs that come out otherwise if any one of the five rules of BEFORE is another.
BEFORE = [*TOLD, ("policy", 2, 4, 3, 2, 2)]
PROBES = [("dry", 0, 0)] + [("run", 0, v) for v in (0, 5, 5, 0, 0, 5, 5, 1, 5, 1, 5, 5)]


class Accepted(unittest.TestCase):
    def test_answers_0_at_both_ends_of_every_range(self):
        for rules in [
            (1, 1, 1, 1, 1), (1, 9, 10, 2, 5), (9, 9, 10, 2, 5), (5, 9, 10, 2, 5), (1, 2, 10, 2, 5),
            (2, 2, 10, 2, 5), (1, 1, 20, 1, 5), (1, 1, 20, 20, 5), (1, 1, 2, 2, 5), (1, 1, 10, 2, 1),
            (1, 1, 10, 2, 20), (9, 9, 20, 20, 20), (1, 9, 20, 1, 20),
        ]:
            with self.subTest(rules=rules):
                self.assertEqual(ask(("policy", *rules)), [[0]])

    def test_need_and_most_decide_runs_from_now_on(self):
        outcomes = [0, 0, 0, 0, 1, 1, 1, 1, 1, 0]
        line = [("tests", 1), ("tell", 0, 0, outcomes)]
        for need, most, run in [
            (1, 1, [0, 1, 0, 1]), (1, 4, [0, 4, 0, 1]), (1, 5, [1, 5, 1, 0]), (1, 9, [1, 5, 1, 0]),
            (5, 9, [1, 9, 5, 0]), (6, 9, [0, 4, 0, 1]), (9, 9, [0, 1, 0, 1]), (4, 8, [1, 8, 4, 0]),
        ]:
            with self.subTest(need=need, most=most):
                self.assertEqual(behind(line, [("policy", need, most, 10, 2, 5), ("dry", 0, 0)]), [[0], run])

    def test_the_rules_at_the_beginning_are_1_1_10_2_5(self):
        self.assertEqual(last(*TOLD, ("dry", 0, 0)), [0, 1, 0, 1])
        told = [("tests", 1), ("tell", 0, 0, [1, 0])]
        self.assertEqual(last(*told, ("dry", 0, 0)), CLEAN_RUN)
        held = [("tests", 1), ("hold", 0, 1)]
        self.assertEqual(held_after(*held, *[("run", 0, 0)] * 6), [1, 1, 1, 1, 0, 0])
        self.assertEqual(ask(("odds", 2, 3)), [[2, 3]])
        # With one try no run is flaky, so no line can show the window and the limit; the object does.
        rules = Room().rules
        self.assertEqual((rules.need, rules.most, rules.window, rules.limit, rules.calm), (1, 1, 10, 2, 5))

    def test_the_last_of_several_policies_holds(self):
        line = [*TOLD, ("policy", 3, 3, 1, 1, 1), ("policy", 1, 2, 1, 1, 1), ("dry", 0, 1)]
        self.assertEqual(last(*line), [1, 2, 1, 0])

    def test_policy_moves_no_test_before_a_run_is_kept(self):
        flaky_once = [*TOLD, TWO_TRIES, ("run", 0, 1), ("policy", 1, 2, 10, 1, 1), ("policy", 1, 2, 10, 2, 1)]
        self.assertEqual(held_after(*flaky_once, ("run", 0, 5), ("run", 0, 1)), [0, 0, 1])

    def test_policy_leaves_histories_and_quarantines(self):
        into = [*TOLD, ("policy", 1, 2, 1, 1, 3), ("run", 0, 1), ("run", 0, 5)]
        self.assertEqual(held_after(*into, ("policy", 1, 2, 20, 20, 3), ("run", 0, 5), ("run", 0, 5)), [1, 1, 1, 0])
        looks = [("held",), ("history", 0), ("score", 0)]
        for rules in [(1, 1, 1, 1, 1), (9, 9, 20, 20, 20), (2, 3, 20, 1, 1)]:
            self.assertEqual(behind([*into, ("policy", *rules)], looks), [[1, 0], *behind(into, looks[1:])])

    def test_policy_leaves_what_is_told(self):
        self.assertEqual(last(*TOLD, TWO_TRIES, ("tell", 0, 1, [1])), [2])
        self.assertEqual(last(*TOLD, TWO_TRIES, ("outcome", 0, 1, 0)), [0])

    def test_policy_can_be_called_when_there_are_no_tests(self):
        self.assertEqual(ask(TWO_TRIES, *TOLD, ("dry", 0, 1))[-1], [1, 2, 1, 0])


class Refused(unittest.TestCase):
    def refuse(self, *rules):
        assert_refused(self, -1, BEFORE, ("policy", *rules), PROBES)

    def test_one_beyond_either_end_of_each_range(self):
        for rules in [
            (0, 4, 3, 2, 2), (5, 4, 3, 2, 2), (2, 1, 3, 2, 2), (0, 0, 3, 2, 2), (1, 0, 3, 2, 2),
            (2, 10, 3, 2, 2), (10, 10, 3, 2, 2), (9, 10, 3, 2, 2), (1, 10, 3, 2, 2),
            (2, 4, 3, 0, 2), (2, 4, 3, 4, 2), (2, 4, 21, 2, 2), (2, 4, 21, 21, 2), (2, 4, 0, 0, 2),
            (2, 4, 0, 1, 2), (2, 4, 1, 2, 2), (2, 4, 20, 21, 2), (2, 4, 3, 2, 0), (2, 4, 3, 2, 21),
            (10, 9, 3, 2, 2), (-1, 4, 3, 2, 2), (2, 4, 3, -1, 2), (2, 4, 3, 2, -1), (-2, -1, 3, 2, 2),
            (2, 4, -1, -2, 2),
        ]:
            self.refuse(*rules)

    def test_numbers_far_out(self):
        fitting = [2, 4, 3, 2, 2]
        for place in range(5):
            for far in (-FAR, FAR):
                self.refuse(*fitting[:place], far, *fitting[place + 1:])
        for far in (-FAR, FAR):
            self.refuse(far, far, far, far, far)

    def test_one_wrong_number_keeps_the_others_from_holding(self):
        for rules in [(1, 1, 20, 1, 21), (1, 1, 21, 1, 1), (9, 10, 20, 1, 1), (1, 9, 20, 0, 20)]:
            self.refuse(*rules)

    def test_the_rules_of_the_beginning_stay_too(self):
        assert_refused(self, -1, TOLD, ("policy", 1, 10, 10, 2, 5), PROBES)


if __name__ == "__main__":
    unittest.main()
