"""The interface: the form of a line and of what is given back."""

import unittest

from tests.lines import CLEAN_RUN, FAR, FLAKY, TWO_TRIES, ask, behind, line
from triesroom.house import UnknownCall, answers


class Unchanging(list):
    """A list that cannot be changed, not for a while either."""

    def refuse(self, *given, **named):
        raise AssertionError("the list that was handed in is changed")

    append = extend = insert = remove = pop = clear = sort = reverse = refuse
    __setitem__ = __delitem__ = __iadd__ = __imul__ = refuse


EVERY_CALL = [
    0, 2, 3, 4, 2, 1,
    1, 2,
    2, 1, 30, 3, 1, 0, 0,
    3, 1, 30, 5,
    4, 1, 30,
    5, 1, 30,
    5, 1, 30,
    5, 0, 30,
    2, 1, 31, 0,
    5, 1, 31,
    7, 1,
    8, 1,
    9,
    10, 0, 1,
    9,
    6, 30,
    8, 1,
    9,
    11, 1, 2,
    10, 1, 2,
]
EVERY_ANSWER = [
    1, 0,
    1, 2,
    1, 1,
    1, 0,
    4, 0, 3, 1, 0,
    5, 0, 3, 1, 0, 0,
    5, 0, 3, 1, 0, 1,
    5, 1, 2, 2, 1, 0,
    1, -2,
    5, 1, 2, 2, 1, 0,
    16, 3, 31, 1, 2, 2, 1, 30, 0, 3, 1, 0, 30, 0, 3, 1, 0,
    4, 0, 0, 0, 0,
    1, 0,
    1, 1,
    2, 1, 0,
    5, 0, 5, 1, 1, 0,
    4, 0, 1, 1, 0,
    1, 0,
    2, 1, 2,
    1, -1,
]


class Form(unittest.TestCase):
    def test_a_line_of_every_call(self):
        self.assertEqual(answers(EVERY_CALL), EVERY_ANSWER)

    def test_a_line_of_one_call(self):
        self.assertEqual(answers([1, 12]), [1, 12])
        self.assertEqual(answers([1, 13]), [1, -1])
        self.assertEqual(answers([0, 1, 1, 1, 1, 1]), [1, 0])
        self.assertEqual(answers([2, 0, 0, 0]), [1, -1])
        self.assertEqual(answers([6, 0]), [4, 1, 0, 0, 0])
        self.assertEqual(answers([7, 0]), [1, -1])
        self.assertEqual(answers([8, 0]), [1, -1])
        self.assertEqual(answers([9]), [1, 0])
        self.assertEqual(answers([10, 0, 1]), [1, -1])
        self.assertEqual(answers([11, 6, 8]), [2, 3, 4])

    def test_the_numbers_are_whole_numbers_and_the_list_is_a_list(self):
        given = answers(EVERY_CALL)
        self.assertIs(type(given), list)
        self.assertEqual({type(number) for number in given}, {int})

    def test_a_row_of_any_length_is_passed_over(self):
        for many in range(21):
            for first in (0, 1, 5, -FAR, FAR):
                with self.subTest(many=many, first=first):
                    row = ([first] + [0] * 19)[:many]
                    self.assertEqual(ask(("tests", 1), ("tell", 1, 0, row), ("tests", 7)), [[1], [-1], [7]])

    def test_arguments_that_look_like_calls(self):
        self.assertEqual(
            ask(("tests", 5), ("tell", 4, 5, [1, 0, 1]), ("outcome", 4, 5, 1), ("dry", 2, 2), ("run", 1, 1)),
            [[5], [1], [0], [1, 1, 1, 1], [1, 1, 1, 1, 0]])
        self.assertEqual(
            ask(("tests", 12), ("check", 9), ("hold", 10, 1), ("history", 9), ("held",), ("odds", 9, 9), ("score", 10)),
            [[12], [1, 12, 0, 0], [1], [1, 9, 1, 1, 1, 1], [1, 10], [1, 1], [1, 0, 0, 0]])

    def test_the_longest_lines(self):
        # assertTrue, since to show where two such long lists differ takes minutes.
        self.assertTrue(answers([1, 1] * 400) == [1, 1] * 400)
        told = ("tell", FAR, -FAR, [FAR] * 20)
        self.assertTrue(answers(line(*[told] * 400)) == [1, -1] * 400)
        runs = [TWO_TRIES, ("tests", 1), ("tell", 0, 0, FLAKY)] + [("run", 0, 0)] * 397
        self.assertTrue(ask(*runs)[3:] == [[1, 2, 1, 0, 0]] + [[1, 2, 1, 0, 1]] * 396)
        self.assertTrue(answers([9] * 400) == [1, 0] * 400)
        checks = ask(("tests", 12), *[("check", 0)] * 399)
        self.assertTrue(checks == [[12]] + [[1, 12, 0, 0]] * 399)

    def test_the_longest_answers(self):
        runs = [("tests", 12)] + [("check", v) for v in range(64)]
        history = [64] + [number for v in range(63, -1, -1) for number in [v, *CLEAN_RUN]]
        self.assertTrue(behind(runs, [("history", 11)] * 335) == [history] * 335)
        everyone = [("tests", 12)] + [("hold", x, 1) for x in range(12)]
        self.assertTrue(behind(everyone, [("held",)] * 387) == [[12, *range(12)]] * 387)
        unlikely = [("policy", 9, 9, 10, 2, 5)] + [("odds", 1, 1000)] * 399
        self.assertTrue(ask(*unlikely) == [[0]] + [[1, 10 ** 27]] * 399)

    def test_a_number_that_no_call_has(self):
        for wrong in (-1, -6, 12, FAR, -FAR):
            with self.subTest(wrong=wrong), self.assertRaises(UnknownCall):
                answers([1, 1, wrong])


class Kept(unittest.TestCase):
    def test_what_is_handed_in_is_not_changed(self):
        handed = list(EVERY_CALL)
        answers(handed)
        self.assertEqual(handed, EVERY_CALL)
        self.assertEqual(answers(Unchanging(EVERY_CALL)), EVERY_ANSWER)

    def test_nothing_is_kept_from_one_time_to_the_next(self):
        for between in ([1, 2], EVERY_CALL, line(("tests", 2), TWO_TRIES, ("tell", 0, 0, FLAKY), ("run", 0, 0))):
            answers(list(between))
            self.assertEqual(answers(EVERY_CALL), EVERY_ANSWER)
            self.assertEqual(answers([4, 0, 0]), [1, -1])
            self.assertEqual(answers([9, 7, 0, 8, 0, 6, 0, 11, 1, 3]), [1, 0, 1, -1, 1, -1, 4, 1, 0, 0, 0, 2, 1, 3])
            self.assertEqual(answers([1, 2, 9, 7, 0, 8, 0]), [1, 2, 1, 0, 1, 0, 4, 0, 0, 0, 0])
            self.assertEqual(answers(line(("tests", 1), ("tell", 0, 0, FLAKY), ("dry", 0, 0)))[-4:], [0, 1, 0, 1])

    def test_what_is_given_back_is_new_each_time(self):
        first = answers(EVERY_CALL)
        first.clear()
        self.assertEqual(answers(EVERY_CALL), EVERY_ANSWER)


if __name__ == "__main__":
    unittest.main()
