"""Promise 4: outcome."""

import unittest

from tests.lines import FAR, TWO_TRIES, assert_refused, behind, last

TOLD = [("tests", 2), ("tell", 0, 0, [0, 1, 1]), ("tell", 0, 999, [1, 0]), ("tell", 1, 0, [0])]


class Accepted(unittest.TestCase):
    def test_the_list_is_taken_again_and_again(self):
        for k in (0, 1, 2, 3, 4, 5, 6, 7, 500, 501, 997, 998, 999):
            with self.subTest(k=k):
                self.assertEqual(last(*TOLD, ("outcome", 0, 0, k)), [0 if k % 3 == 0 else 1])
                self.assertEqual(last(*TOLD, ("outcome", 0, 999, k)), [1 - k % 2])
                self.assertEqual(last(*TOLD, ("outcome", 1, 0, k)), [0])

    def test_where_nothing_is_told_every_try_passes(self):
        for x, v in ((0, 1), (0, 998), (1, 1), (1, 999)):
            for k in (0, 1, 2, 999):
                with self.subTest(x=x, v=v, k=k):
                    self.assertEqual(last(*TOLD, ("outcome", x, v, k)), [1])

    def test_neither_runs_nor_rules_change_which_try_is_meant(self):
        line = [*TOLD, TWO_TRIES, ("run", 0, 0), ("dry", 0, 0), ("outcome", 0, 0, 1)]
        self.assertEqual(behind(line, [("outcome", 0, 0, 0), ("outcome", 0, 0, 0)]), [[0], [0]])


class Refused(unittest.TestCase):
    def refuse(self, x, v, k):
        probes = [("outcome", 0, 0, 0), ("outcome", 0, 999, 1), ("outcome", 1, 0, 9), ("tell", 1, 5, [1])]
        assert_refused(self, -1, TOLD, ("outcome", x, v, k), probes)

    def test_x_is_not_a_test(self):
        for x in (-1, 2, 12, -2, -FAR, FAR):
            self.refuse(x, 0, 0)

    def test_v_is_not_a_revision(self):
        for v in (-1, 1000, -FAR, FAR):
            self.refuse(0, v, 0)

    def test_k_is_not_from_0_to_999(self):
        for k in (-1, 1000, -3, 1002, -FAR, FAR):
            self.refuse(0, 0, k)
            self.refuse(1, 1, k)

    def test_all_out_of_range(self):
        for far in (-FAR, FAR):
            self.refuse(far, far, far)


if __name__ == "__main__":
    unittest.main()
