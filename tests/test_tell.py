"""Promise 3: tell."""

import unittest

from tests.lines import FAR, ask, assert_refused, behind, last

THREE = [("tests", 3)]
# 40 tests and revisions: three tests, at the revisions 0 to 12, and one more.
FULL = THREE + [("tell", x, v, [0, 1]) for v in range(13) for x in range(3)] + [("tell", 0, 999, [0])]


def outcomes(x, v, many):
    return [("outcome", x, v, k) for k in range(many)]


class Accepted(unittest.TestCase):
    def test_answers_of_how_many_tests_and_revisions_something_is_told(self):
        self.assertEqual(
            behind(THREE, [("tell", 0, 0, [1]), ("tell", 0, 1, [0]), ("tell", 1, 0, [0, 1]), ("tell", 0, 0, [0]),
                           ("tell", 2, 999, [1, 1]), ("tell", 1, 0, [1])]),
            [[1], [2], [3], [3], [4], [4]])

    def test_the_outcomes_hold_there_and_nowhere_else(self):
        line = [*THREE, ("tell", 1, 5, [0])]
        where = [(x, v) for x in range(3) for v in (0, 1, 4, 5, 6, 999)]
        for x, v in where:
            with self.subTest(x=x, v=v):
                self.assertEqual(last(*line, ("outcome", x, v, 0)), [0 if (x, v) == (1, 5) else 1])

    def test_the_test_and_the_revision_are_not_mixed_up(self):
        line = [*THREE, ("tell", 1, 2, [0])]
        self.assertEqual(behind(line, [("outcome", 2, 1, 0), ("outcome", 1, 2, 0)]), [[1], [0]])

    def test_what_is_told_anew_stands_in_place_of_what_was_told(self):
        line = [*THREE, ("tell", 0, 3, [0, 0, 0, 0]), ("tell", 0, 3, [1, 0])]
        self.assertEqual(behind(line, outcomes(0, 3, 5)), [[1], [0], [1], [0], [1]])

    def test_from_1_to_12_outcomes(self):
        for many in range(1, 13):
            told = [1] * (many - 1) + [0]
            with self.subTest(many=many):
                given = behind(THREE, [("tell", 0, 0, told)] + outcomes(0, 0, 26))
                self.assertEqual(given[0], [1])
                self.assertEqual(given[1:], [[told[k % many]] for k in range(26)])

    def test_revisions_at_both_ends(self):
        for v in (0, 999):
            self.assertEqual(behind(THREE, [("tell", 2, v, [0]), ("outcome", 2, v, 0)]), [[1], [0]])

    def test_40_are_told(self):
        self.assertEqual(behind(THREE, FULL[1:]), [[many] for many in range(1, 41)])

    def test_when_there_are_40_each_of_them_can_be_told_anew(self):
        for x, v in [(0, 0), (2, 12), (1, 7), (0, 999)]:
            with self.subTest(x=x, v=v):
                self.assertEqual(
                    behind(FULL, [("tell", x, v, [1, 1, 0])] + outcomes(x, v, 4)), [[40], [1], [1], [0], [1]])

    def test_the_40_are_of_all_tests_together(self):
        line = [("tests", 12)] + [("tell", x, v, [1]) for x in range(12) for v in range(3)]
        self.assertEqual(
            behind(line, [("tell", 0, 3, [1]), ("tell", 1, 3, [1]), ("tell", 2, 3, [1]), ("tell", 3, 3, [1]),
                          ("tell", 4, 3, [1])]),
            [[37], [38], [39], [40], [-7]])


class Refused(unittest.TestCase):
    before = [*THREE, ("tell", 0, 0, [0, 1]), ("tell", 2, 999, [0])]
    probes = [*outcomes(0, 0, 3), *outcomes(2, 999, 2), *outcomes(1, 0, 2), ("tell", 1, 1, [1])]

    def refuse(self, number, *arguments):
        assert_refused(self, number, self.before, ("tell", *arguments), self.probes)

    def test_x_is_not_a_test(self):
        for x in (-1, 3, 12, -3, -FAR, FAR):
            self.refuse(-1, x, 0, [1])

    def test_v_is_not_a_revision(self):
        for v in (-1, 1000, -FAR, FAR):
            self.refuse(-1, 0, v, [1])

    def test_too_few_outcomes_or_too_many(self):
        for many in (0, 13, 14, 19, 20):
            for bit in (0, 1):
                for v in (0, 1):
                    self.refuse(-2, 0, v, [bit] * many)

    def test_an_outcome_that_is_not_0_or_1(self):
        for wrong in (-1, 2, -FAR, FAR):
            for told in ([wrong], [wrong, 0], [1, wrong], [0, 1, wrong, 1, 0], [1] * 11 + [wrong], [wrong] * 13):
                self.refuse(-2, 0, 0, told)
                self.refuse(-2, 1, 0, told)

    def test_range_is_looked_at_before_the_outcomes(self):
        for told in ([], [2], [1] * 13, [FAR] * 20):
            for x, v in ((3, 0), (-1, 0), (0, 1000), (0, -1), (FAR, -FAR)):
                self.refuse(-1, x, v, told)

    def test_something_is_told_of_40_others(self):
        probes = outcomes(1, 13, 2) + outcomes(0, 999, 2) + outcomes(2, 12, 2) + [("tell", 0, 0, [1])]
        for x, v in ((1, 13), (0, 13), (2, 998), (1, 999)):
            assert_refused(self, -7, FULL, ("tell", x, v, [0]), probes + outcomes(x, v, 2))

    def test_both_others_are_looked_at_before_the_40(self):
        probes = outcomes(1, 13, 2) + outcomes(0, 999, 2) + [("tell", 0, 0, [1])]
        for told in ([], [2], [1] * 13, [0] * 20):
            assert_refused(self, -2, FULL, ("tell", 1, 13, told), probes)
            assert_refused(self, -2, FULL, ("tell", 0, 999, told), probes)
            assert_refused(self, -1, FULL, ("tell", 3, 13, told), probes)
        assert_refused(self, -1, FULL, ("tell", 3, 13, [1]), probes)
        assert_refused(self, -1, FULL, ("tell", 1, 1000, [1]), probes)

    def test_refused_ones_do_not_count_among_the_40(self):
        line = [*THREE, ("tell", 0, 0, []), ("tell", 0, 1, [2]), ("tell", 0, 1000, [1]), ("tell", 0, 2, [1])]
        self.assertEqual(ask(*line)[1:], [[-2], [-2], [-1], [1]])

    def test_after_a_refusal_for_the_40_tests_makes_room(self):
        self.assertEqual(behind(FULL, [("tell", 1, 13, [0]), ("tests", 2), ("tell", 1, 13, [0])]), [[-7], [2], [1]])


if __name__ == "__main__":
    unittest.main()
