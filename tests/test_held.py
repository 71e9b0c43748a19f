"""Promise 8: held and hold."""

import unittest

from tests.lines import FAR, FLAKY, LOOKS, TWO_TRIES, ask, assert_refused, behind, held_after, last

# Test 1 is flaky at revision 0; two such runs bring it into quarantine, five others bring it out.
THREE = [TWO_TRIES, ("tests", 3), ("tell", 1, 0, FLAKY)]
FLAKY_ONE = ("run", 1, 0)
CLEAN_ONE = ("run", 1, 1)


class Held(unittest.TestCase):
    def test_without_tests(self):
        for before in ([], [("tests", 0)], [*THREE, ("hold", 1, 1), ("tests", 0)]):
            self.assertEqual(last(*before, ("held",)), [0])

    def test_none(self):
        for n in range(13):
            self.assertEqual(ask(("tests", n), ("check", 0), ("held",))[-1], [0])

    def test_all(self):
        for n in range(13):
            calls = [("tests", n)] + [("hold", x, 1) for x in range(n)]
            self.assertEqual(last(*calls, ("held",)), [n, *range(n)])

    def test_in_increasing_order(self):
        calls = [("tests", 12)] + [("hold", x, 1) for x in (11, 3, 7, 0, 10)]
        self.assertEqual(last(*calls, ("held",)), [5, 0, 3, 7, 10, 11])
        self.assertEqual(last(*calls, ("hold", 7, 0), ("held",)), [4, 0, 3, 10, 11])

    def test_tests_that_runs_brought_in_and_out(self):
        into = [*THREE, FLAKY_ONE, FLAKY_ONE]
        self.assertEqual(last(*THREE, FLAKY_ONE, ("held",)), [0])
        self.assertEqual(last(*into, ("held",)), [1, 1])
        self.assertEqual(last(*into, *[CLEAN_ONE] * 4, ("held",)), [1, 1])
        self.assertEqual(last(*into, *[CLEAN_ONE] * 5, ("held",)), [0])

    def test_none_after_tests(self):
        self.assertEqual(last(*THREE, ("hold", 1, 1), ("tests", 3), ("held",)), [0])

    def test_policy_leaves_them(self):
        self.assertEqual(last(*THREE, ("hold", 2, 1), CLEAN_ONE, ("policy", 1, 1, 1, 1, 1), ("held",)), [1, 2])

    def test_it_changes_nothing(self):
        before = [*THREE, FLAKY_ONE, ("hold", 0, 1), FLAKY_ONE]
        self.assertEqual(behind([*before, ("held",)], LOOKS), behind(before, LOOKS))


class Hold(unittest.TestCase):
    def test_into_and_out(self):
        self.assertEqual(
            behind(THREE, [("hold", 1, 1), ("held",), ("score", 1), ("hold", 1, 0), ("held",), ("score", 1)]),
            [[1], [1, 1], [1, 0, 0, 0], [1], [0], [0, 0, 0, 0]])

    def test_the_count_is_0_either_way(self):
        kept = [*THREE, FLAKY_ONE, CLEAN_ONE]
        self.assertEqual(behind(kept, [("score", 1), ("hold", 1, 1), ("score", 1)]), [[0, 2, 1, 1], [1], [1, 0, 0, 0]])
        held = [*THREE, ("hold", 1, 1), FLAKY_ONE, CLEAN_ONE]
        self.assertEqual(behind(held, [("score", 1), ("hold", 1, 0), ("score", 1)]), [[1, 2, 1, 1], [1], [0, 0, 0, 0]])

    def test_a_test_that_is_so_already_stays_just_as_it_is(self):
        for before, on in [
            (THREE, 0), ([*THREE, FLAKY_ONE, CLEAN_ONE], 0), ([*THREE, ("hold", 1, 1)], 1),
            ([*THREE, ("hold", 1, 1), FLAKY_ONE, CLEAN_ONE, CLEAN_ONE], 1), ([*THREE, FLAKY_ONE, FLAKY_ONE], 1),
            ([*THREE, FLAKY_ONE, FLAKY_ONE, CLEAN_ONE], 1), ([*THREE, ("hold", 1, 1), CLEAN_ONE, ("hold", 1, 0)], 0),
        ]:
            with self.subTest(before=before, on=on):
                probes = [*LOOKS, *[CLEAN_ONE] * 5, FLAKY_ONE, FLAKY_ONE, *LOOKS]
                self.assertEqual(last(*before, ("hold", 1, on)), [0])
                self.assertEqual(behind([*before, ("hold", 1, on)], probes), behind(before, probes))

    def test_the_history_stays(self):
        kept = [*THREE, FLAKY_ONE, CLEAN_ONE]
        history = [2, 1, 1, 1, 1, 1, 0, 1, 2, 1, 0]
        self.assertEqual(
            behind(kept, [("hold", 1, 1), ("history", 1), ("hold", 1, 0), ("history", 1)]),
            [[1], history, [1], history])

    def test_no_run_is_kept_and_other_tests_stay(self):
        before = [*THREE, ("check", 0), ("hold", 2, 1)]
        others = [(call, x) for x in (0, 2) for call in ("history", "score")]
        self.assertEqual(behind([*before, ("hold", 1, 1)], others), behind(before, others))
        self.assertEqual(last(*before, ("hold", 1, 1), ("held",)), [2, 1, 2])

    def test_runs_from_before_neither_score_nor_calm(self):
        self.assertEqual(
            held_after(*THREE, FLAKY_ONE, ("hold", 1, 1), ("hold", 1, 0), FLAKY_ONE, FLAKY_ONE), [0, 0, 1])
        self.assertEqual(
            held_after(*THREE, *[CLEAN_ONE] * 5, ("hold", 1, 1), *[CLEAN_ONE] * 5), [0] * 5 + [1] * 4 + [0])

    def test_a_held_test_comes_out_when_it_is_calm(self):
        self.assertEqual(held_after(*THREE, ("hold", 1, 1), *[CLEAN_ONE] * 5), [1, 1, 1, 1, 0])
        self.assertEqual(held_after(*THREE, ("hold", 1, 1), CLEAN_ONE, FLAKY_ONE, *[CLEAN_ONE] * 5), [1] * 6 + [0])

    def test_a_test_that_was_brought_in_by_runs_can_be_let_out(self):
        self.assertEqual(behind([*THREE, FLAKY_ONE, FLAKY_ONE], [("hold", 1, 0), ("held",)]), [[1], [0]])
        self.assertEqual(held_after(*THREE, FLAKY_ONE, FLAKY_ONE, ("hold", 1, 0), FLAKY_ONE, FLAKY_ONE), [0, 1, 0, 1])


class Refused(unittest.TestCase):
    probes = [FLAKY_ONE, CLEAN_ONE, ("check", 0), ("held",)]
    before = [*THREE, FLAKY_ONE, ("hold", 2, 1), ("run", 2, 0), CLEAN_ONE]

    def test_on_is_not_0_or_1(self):
        for x in (0, 1, 2):
            for on in (-1, 2, -2, 3, -FAR, FAR):
                assert_refused(self, -1, self.before, ("hold", x, on), self.probes)

    def test_x_is_not_a_test(self):
        for x in (-1, 3, 12, -3, -FAR, FAR):
            for on in (0, 1, -1, 2, FAR):
                assert_refused(self, -1, self.before, ("hold", x, on), self.probes)

    def test_without_tests_every_number_is_refused(self):
        for before in ([], [("tests", 0)], [*THREE, ("tests", 0)]):
            for on in (0, 1):
                assert_refused(self, -1, before, ("hold", 0, on), [("tests", 1), ("held",), ("run", 0, 0)])


if __name__ == "__main__":
    unittest.main()
