"""Promise 2: tests."""

import unittest

from tests.lines import CLEAN_RUN, FAR, FLAKY, FLAKY_RUN, TWO_TRIES, ask, assert_refused, behind, held_after, last

FLAKY_TESTS = [TWO_TRIES, ("tests", 2), ("tell", 0, 7, FLAKY), ("tell", 1, 7, FLAKY)]
BOTH_HELD = [*FLAKY_TESTS, ("run", 0, 7), ("run", 0, 7), ("run", 1, 7), ("run", 1, 7)]


class Accepted(unittest.TestCase):
    def test_answers_n_and_numbers_the_tests_from_0(self):
        for n in (0, 1, 2, 11, 12):
            for x in range(-1, 14):
                with self.subTest(n=n, x=x):
                    expected = CLEAN_RUN if 0 <= x < n else [-1]
                    self.assertEqual(ask(("tests", n), ("dry", x, 0)), [[n], expected])

    def test_there_are_no_tests_at_the_beginning(self):
        self.assertEqual(
            ask(("tell", 0, 0, [1]), ("outcome", 0, 0, 0), ("dry", 0, 0), ("run", 0, 0)), [[-1]] * 4)

    def test_fewer_tests_and_more(self):
        self.assertEqual(
            ask(("tests", 12), ("dry", 11, 0), ("tests", 3), ("dry", 3, 0), ("dry", 2, 0), ("tests", 5),
                ("dry", 4, 0), ("tests", 0), ("dry", 0, 0)),
            [[12], CLEAN_RUN, [3], [-1], CLEAN_RUN, [5], CLEAN_RUN, [0], [-1]])

    def test_nothing_is_told_afterwards(self):
        for n in (1, 2, 3):
            with self.subTest(n=n):
                self.assertEqual(
                    behind(FLAKY_TESTS, [("tests", n), ("outcome", 0, 7, 0), ("dry", 0, 7), ("tell", 0, 8, [0])]),
                    [[n], [1], CLEAN_RUN, [1]])

    def test_none_is_in_quarantine_afterwards(self):
        self.assertEqual([answer[-1] for answer in ask(*BOTH_HELD)[-4:]], [0, 1, 0, 1])
        self.assertEqual(held_after(*BOTH_HELD, ("tests", 2), ("run", 0, 7), ("run", 1, 7))[-2:], [0, 0])
        self.assertEqual(behind(BOTH_HELD, [("held",), ("tests", 2), ("held",)]), [[2, 0, 1], [2], [0]])

    def test_histories_are_empty_and_counts_are_0_afterwards(self):
        line = [*FLAKY_TESTS, ("run", 0, 7), ("tests", 2), ("tell", 0, 7, FLAKY), ("run", 0, 7), ("run", 0, 7)]
        self.assertEqual(held_after(*line), [0, 0, 1])
        looks = [(call, x) for x in (0, 1) for call in ("history", "score")]
        for before in (BOTH_HELD, [*FLAKY_TESTS, ("check", 7)]):
            self.assertEqual(behind([*before, ("tests", 2)], looks), [[0], [0, 0, 0, 0]] * 2)

    def test_the_rules_stay(self):
        self.assertEqual(last(*FLAKY_TESTS, ("tests", 1), ("tell", 0, 7, FLAKY), ("dry", 0, 7)), FLAKY_RUN)
        self.assertEqual(last(*FLAKY_TESTS, ("tests", 1), ("odds", 1, 2)), [3, 4])

    def test_each_test_has_a_record_of_its_own(self):
        line = [*FLAKY_TESTS, ("run", 0, 7), ("run", 1, 7), ("run", 0, 7), ("run", 1, 8), ("run", 1, 7)]
        self.assertEqual(held_after(*line), [0, 0, 1, 0, 1])


class Refused(unittest.TestCase):
    def test_n_is_not_from_0_to_12(self):
        probes = [("dry", 1, 7), ("dry", 2, 7), ("outcome", 0, 7, 0), ("tell", 0, 8, [1])]
        probes += [("run", x, v) for x in (0, 1) for v in (8, 8, 8, 8, 8, 7, 7)]
        for before in (BOTH_HELD, FLAKY_TESTS, []):
            for n in (-1, 13, -2, 14, 20, 40, 999, -FAR, FAR):
                assert_refused(self, -1, before, ("tests", n), probes)


if __name__ == "__main__":
    unittest.main()
