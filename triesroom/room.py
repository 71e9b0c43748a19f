"""The object that the calls of a line are made on."""

from triesroom.odds import odds_of_passing
from triesroom.record import Record
from triesroom.rules import Rules, are_rules
from triesroom.runs import make_run, outcome_of_try

OUT_OF_RANGE = -1
NOT_OUTCOMES = -2
TOO_MUCH_TOLD = -7

MOST_TESTS = 12
LAST_REVISION = 999
LAST_TRY = 999
MOST_OUTCOMES = 12
MOST_TOLD = 40
MOST_WAYS = 1000


def are_outcomes(bits):
    """Say whether the list can be told as outcomes."""
    if not 1 <= len(bits) <= MOST_OUTCOMES:
        return False
    return all([bit == 0 or bit == 1 for bit in bits])


def is_revision(v):
    """Say whether v is a revision."""
    return 0 <= v <= LAST_REVISION


class Room:
    """The rules, the tests with their records, and the told outcomes.

    Each call gives its answer as a list; a refusal is one number below 0, and changes nothing.
    """

    def __init__(self):
        self.rules = Rules(1, 1, 10, 2, 5)
        self.records = []
        self.told = {}

    def is_test(self, x):
        """Say whether x is a test's number."""
        return 0 <= x < len(self.records)

    def are_test_and_revision(self, x, v):
        """Say whether x is a test's number and v a revision."""
        return self.is_test(x) and is_revision(v)

    def outcomes_at(self, x, v):
        """Give the outcomes of the test at the revision."""
        # One pass, taken again and again, is every try passing: so it is where nothing is told.
        return self.told.get((x, v), [1])

    def run_at(self, x, v):
        """Make a run of the test at the revision."""
        return make_run(v, self.outcomes_at(x, v), self.rules)

    def kept_run_at(self, x, v):
        """Make a run of the test at the revision, and keep it."""
        made = self.run_at(x, v)
        self.records[x].keep(made, self.rules)
        return made

    def policy(self, need, most, window, limit, calm):
        """Set the rules; records stay as they are, even where the new rules would move a test."""
        if not are_rules(need, most, window, limit, calm):
            return [OUT_OF_RANGE]
        self.rules = Rules(need, most, window, limit, calm)
        return [0]

    def tests(self, n):
        """Begin anew with n tests; the rules stay."""
        if not 0 <= n <= MOST_TESTS:
            return [OUT_OF_RANGE]
        self.records = [Record() for x in range(n)]
        self.told = {}
        return [n]

    def tell(self, x, v, bits):
        """Tell the outcomes of a test at a revision, in place of those told before."""
        if not self.are_test_and_revision(x, v):
            return [OUT_OF_RANGE]
        if not are_outcomes(bits):
            return [NOT_OUTCOMES]
        if (x, v) not in self.told and len(self.told) >= MOST_TOLD:
            return [TOO_MUCH_TOLD]
        self.told[(x, v)] = list(bits)
        return [len(self.told)]

    def outcome(self, x, v, k):
        """Answer the outcome of one try."""
        if not self.are_test_and_revision(x, v) or not 0 <= k <= LAST_TRY:
            return [OUT_OF_RANGE]
        return [outcome_of_try(self.outcomes_at(x, v), k)]

    def dry(self, x, v):
        """Run a test without keeping the run."""
        if not self.are_test_and_revision(x, v):
            return [OUT_OF_RANGE]
        return self.run_at(x, v).as_numbers()

    def run(self, x, v):
        """Run a test, keep the run, and say whether the test is in quarantine afterwards."""
        if not self.are_test_and_revision(x, v):
            return [OUT_OF_RANGE]
        made = self.kept_run_at(x, v)
        return made.as_numbers() + [1 if self.records[x].quarantined else 0]

    def check(self, v):
        """Run all tests and keep the runs; only tests that were not in quarantine before can stop the revision."""
        if not is_revision(v):
            return [OUT_OF_RANGE]
        tries = 0
        stopping = []
        put_aside = []
        for x in range(len(self.records)):
            # Asked ahead of the run, since keeping it may move the test.
            quarantined_before = self.records[x].quarantined
            made = self.kept_run_at(x, v)
            tries += made.tries
            if not made.passed and quarantined_before:
                put_aside.append(x)
            elif not made.passed:
                stopping.append(x)
        verdict = 0 if stopping else 1
        return [verdict, tries, len(stopping)] + stopping + [len(put_aside)] + put_aside

    def history(self, x):
        """Answer the remembered runs of a test, the last first."""
        if not self.is_test(x):
            return [OUT_OF_RANGE]
        answer = [len(self.records[x].kept)]
        for kept_run in self.records[x].kept:
            answer.append(kept_run.revision)
            answer.extend(kept_run.as_numbers())
        return answer

    def score(self, x):
        """Answer where a test stands: quarantine, count, score and calm."""
        if not self.is_test(x):
            return [OUT_OF_RANGE]
        record = self.records[x]
        quarantined = 1 if record.quarantined else 0
        return [quarantined, record.count, record.flaky_score(self.rules.window), record.calm_length()]

    def held(self):
        """Answer the tests in quarantine."""
        quarantined = [x for x, record in enumerate(self.records) if record.quarantined]
        return [len(quarantined)] + quarantined

    def hold(self, x, on):
        """Bring a test into quarantine or out of it by hand, and say whether that changed anything."""
        if not self.is_test(x) or not 0 <= on <= 1:
            return [OUT_OF_RANGE]
        wanted = on == 1
        # A move sets the count to 0, so a test that is so already must not be moved.
        if self.records[x].quarantined == wanted:
            return [0]
        self.records[x].move(wanted)
        return [1]

    def odds(self, a, q):
        """Answer the chance that a run passes, each try passing with the chance a over q."""
        if not 1 <= q <= MOST_WAYS or not 0 <= a <= q:
            return [OUT_OF_RANGE]
        return odds_of_passing(a, q, self.rules)
