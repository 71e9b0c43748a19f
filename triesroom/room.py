"""The object that the calls of a line are made on."""

from triesroom.record import Record
from triesroom.rules import Rules, are_rules
from triesroom.runs import make_run, outcome_of_try

OUT_OF_RANGE = -1
NOT_OUTCOMES = -2
TOO_MUCH_TOLD = -7

MOST_TESTS = 12
LAST_REVISION = 999
LAST_TRY = 999
MOST_OUTCOMES = 12
MOST_TOLD = 40


def are_outcomes(bits):
    """Say whether the list can be told as outcomes."""
    if not 1 <= len(bits) <= MOST_OUTCOMES:
        return False
    return all([bit == 0 or bit == 1 for bit in bits])


class Room:
    """The rules, the tests with their records, and the told outcomes.

    Each call gives its answer as a list; a refusal is one number below 0, and changes nothing.
    """

    def __init__(self):
        self.rules = Rules(1, 1, 10, 2, 5)
        self.records = []
        self.told = {}

    def are_test_and_revision(self, x, v):
        """Say whether x is a test's number and v a revision."""
        return 0 <= x < len(self.records) and 0 <= v <= LAST_REVISION

    def outcomes_at(self, x, v):
        """Give the outcomes of the test at the revision."""
        # One pass, taken again and again, is every try passing: so it is where nothing is told.
        return self.told.get((x, v), [1])

    def policy(self, need, most, window, limit, calm):
        """Set the rules; records stay as they are, even where the new rules would move a test."""
        if not are_rules(need, most, window, limit, calm):
            return [OUT_OF_RANGE]
        self.rules = Rules(need, most, window, limit, calm)
        return [0]

    def tests(self, n):
        """Begin anew with n tests; the rules stay."""
        if not 0 <= n <= MOST_TESTS:
            return [OUT_OF_RANGE]
        self.records = [Record() for x in range(n)]
        self.told = {}
        return [n]

    def tell(self, x, v, bits):
        """Tell the outcomes of a test at a revision, in place of those told before."""
        if not self.are_test_and_revision(x, v):
            return [OUT_OF_RANGE]
        if not are_outcomes(bits):
            return [NOT_OUTCOMES]
        if (x, v) not in self.told and len(self.told) >= MOST_TOLD:
            return [TOO_MUCH_TOLD]
        self.told[(x, v)] = list(bits)
        return [len(self.told)]

    def outcome(self, x, v, k):
        """Answer the outcome of one try."""
        if not self.are_test_and_revision(x, v) or not 0 <= k <= LAST_TRY:
            return [OUT_OF_RANGE]
        return [outcome_of_try(self.outcomes_at(x, v), k)]

    def dry(self, x, v):
        """Run a test without keeping the run."""
        if not self.are_test_and_revision(x, v):
            return [OUT_OF_RANGE]
        return make_run(v, self.outcomes_at(x, v), self.rules).as_numbers()

    def run(self, x, v):
        """Run a test, keep the run, and say whether the test is in quarantine afterwards."""
        if not self.are_test_and_revision(x, v):
            return [OUT_OF_RANGE]
        made = make_run(v, self.outcomes_at(x, v), self.rules)
        record = self.records[x]
        record.keep(made, self.rules)
        return made.as_numbers() + [1 if record.quarantined else 0]
