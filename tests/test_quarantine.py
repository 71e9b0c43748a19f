"""Promise 5, and the words on histories and quarantine: what keeping a run does."""

import unittest

from tests.lines import ALL_FAIL, FLAKY, held_after
from triesroom.record import Record
from triesroom.rules import Rules
from triesroom.runs import Run

# The revision at which the one test makes a run of each sort: flaky, clean and passed, clean and failed.
SORTS = {"F": 0, "C": 1, "X": 2}


def held(window, limit, calm, sorts):
    """Give quarantine after each run; a tuple among the sorts is a change of window, limit and calm."""
    line = [("policy", 1, 2, window, limit, calm), ("tests", 1), ("tell", 0, 0, FLAKY), ("tell", 0, 2, ALL_FAIL)]
    for sort in sorts:
        line.append(("policy", 1, 2, *sort) if isinstance(sort, tuple) else ("run", 0, SORTS[sort]))
    return "".join(str(number) for number in held_after(*line))


class Into(unittest.TestCase):
    def test_at_the_limit(self):
        self.assertEqual(held(20, 1, 20, "F"), "1")
        self.assertEqual(held(20, 1, 20, "CCF"), "001")
        self.assertEqual(held(20, 2, 20, "FF"), "01")
        self.assertEqual(held(20, 3, 20, "FFF"), "001")
        self.assertEqual(held(20, 20, 20, "F" * 20), "0" * 19 + "1")
        self.assertEqual(held(1, 1, 20, "CF"), "01")

    def test_with_a_window_of_10_a_limit_of_2_and_a_calm_of_5(self):
        for calm_runs, last_one in (("C" * 8, "1"), ("C" * 9, "0")):
            self.assertEqual(held(10, 2, 5, "F" + calm_runs + "F")[-1], last_one)
        self.assertEqual(held(10, 2, 5, "FFCCCCC"), "0111110")

    def test_clean_runs_never_bring_a_test_in(self):
        self.assertEqual(held(20, 1, 1, "CX" * 30), "0" * 60)

    def test_only_as_many_runs_as_the_window_says(self):
        self.assertEqual(held(2, 2, 20, "FCFCFF"), "000001")
        self.assertEqual(held(3, 2, 20, "FCCFCF"), "000001")
        self.assertEqual(held(20, 2, 20, "F" + "C" * 18 + "F"), "0" * 19 + "1")
        self.assertEqual(held(20, 2, 20, "F" + "C" * 19 + "F"), "0" * 21)
        self.assertEqual(held(20, 2, 20, "F" + "X" * 19 + "FF"), "0" * 21 + "1")

    def test_a_wider_window_reaches_further_back(self):
        self.assertEqual(held(2, 2, 20, ["F", "C", "F", (3, 2, 20), "C"]), "0000")
        self.assertEqual(held(2, 2, 20, ["F", "C", "F", (4, 2, 20), "C"]), "0001")

    def test_a_narrower_window_reaches_less_far(self):
        self.assertEqual(held(9, 3, 20, ["F", "C", "F", (2, 2, 20), "C", "F", "F"]), "000001")

    def test_a_lower_limit_counts_from_the_next_kept_run_on(self):
        self.assertEqual(held(9, 3, 20, ["F", "F", (9, 2, 20), "C"]), "001")
        self.assertEqual(held(9, 3, 20, ["F", "F", (9, 1, 20), (9, 3, 20), "C"]), "000")


class Out(unittest.TestCase):
    def test_when_calm_is_reached(self):
        self.assertEqual(held(1, 1, 1, "FC"), "10")
        self.assertEqual(held(1, 1, 2, "FCC"), "110")
        self.assertEqual(held(1, 1, 20, "F" + "C" * 20), "1" * 20 + "0")

    def test_a_run_that_fails_at_every_try_is_clean(self):
        self.assertEqual(held(1, 1, 3, "FXCX"), "1110")

    def test_a_flaky_run_begins_the_calm_anew(self):
        self.assertEqual(held(1, 1, 3, "FCCFCCC"), "1111110")
        self.assertEqual(held(1, 1, 2, "FFFCFCFCC"), "111111110")

    def test_more_flaky_runs_do_not_lengthen_it(self):
        self.assertEqual(held(2, 2, 2, "FFFFFFCC"), "01111110")

    def test_a_smaller_calm_counts_from_the_next_kept_run_on(self):
        self.assertEqual(held(1, 1, 9, ["F", "C", "C", "C", (1, 1, 2), "C"]), "11110")
        self.assertEqual(held(1, 1, 9, ["F", "C", "C", "C", (1, 1, 2), "F", "C", "C"]), "1111110")
        self.assertEqual(held(1, 1, 9, ["F", "C", "C", "C", (1, 1, 2), (1, 1, 9), "C"]), "11111")


class Count(unittest.TestCase):
    def test_flaky_runs_from_before_the_quarantine_do_not_score(self):
        self.assertEqual(held(20, 2, 1, "FFCFF"), "01001")
        self.assertEqual(held(20, 3, 2, "FFFCCFFF"), "00110001")

    def test_flaky_runs_within_the_quarantine_do_not_score_either(self):
        self.assertEqual(held(20, 2, 1, "FFFFFCFCF"), "011110001")

    def test_clean_runs_from_before_the_quarantine_do_not_calm(self):
        # Only a clean run that brings the test in, by a changed rule, has clean ones just before the quarantine.
        self.assertEqual(held(9, 2, 3, ["F", "C", "C", "C", (9, 1, 3), "C", "C", "C", "C"]), "00001110")

    def test_the_run_that_brings_a_test_in_does_not_bring_it_out(self):
        self.assertEqual(held(9, 2, 1, ["F", "C", (9, 1, 1), "C", "C", "C"]), "00100")

    def test_the_run_that_brings_a_test_out_does_not_bring_it_in(self):
        self.assertEqual(held(9, 1, 1, "FCCFC"), "10010")


class Remembered(unittest.TestCase):
    rules = Rules(1, 2, 20, 20, 20)

    def keep(self, record, revisions):
        for revision in revisions:
            record.keep(Run(revision, True, 1, 1), self.rules)

    def revisions(self, record):
        return [run.revision for run in record.kept]

    def test_the_last_first(self):
        record = Record()
        self.assertEqual(self.revisions(record), [])
        self.keep(record, [5, 3, 8, 3])
        self.assertEqual(self.revisions(record), [3, 8, 3, 5])
        self.assertEqual(record.count, 4)

    def test_at_most_64(self):
        for many in (63, 64, 65, 66, 200):
            with self.subTest(many=many):
                record = Record()
                self.keep(record, range(many))
                self.assertEqual(self.revisions(record), list(range(many))[::-1][:64])
                self.assertEqual(record.count, min(many, 64))

    def test_a_move_keeps_the_runs_and_begins_the_count_anew(self):
        record = Record()
        for revision in range(19):
            record.keep(Run(revision, True, 2, 1), self.rules)
        self.assertEqual((record.quarantined, record.count), (False, 19))
        record.keep(Run(19, True, 2, 1), self.rules)
        self.assertEqual((record.quarantined, record.count), (True, 0))
        self.assertEqual(self.revisions(record), list(range(20))[::-1])
        self.keep(record, range(20, 39))
        self.assertEqual((record.quarantined, record.count), (True, 19))
        self.keep(record, [39])
        self.assertEqual((record.quarantined, record.count), (False, 0))
        self.assertEqual(self.revisions(record), list(range(40))[::-1])

    def test_after_64_runs_quarantine_goes_on_as_before(self):
        self.assertEqual(held(3, 2, 2, "C" * 70 + "FCFCC" + "FF"), "0" * 72 + "110" + "01")
        self.assertEqual(held(3, 2, 2, "FF" + "FC" * 40 + "C"), "01" + "1" * 80 + "0")


if __name__ == "__main__":
    unittest.main()
