"""One run of a test: its tries, and what they decide."""


class Run:
    """What came of a run at a revision."""

    def __init__(self, revision, passed, tries, passes):
        self.revision = revision
        self.passed = passed
        self.tries = tries
        self.passes = passes

    def is_clean(self):
        """Say whether all tries passed or all failed."""
        return self.passes == 0 or self.passes == self.tries

    def as_numbers(self):
        """Give the four numbers that tell a run."""
        return [1 if self.passed else 0, self.tries, self.passes, 1 if self.is_clean() else 0]


def outcome_of_try(bits, k):
    """Give the outcome of try k, the list being taken again and again."""
    return bits[k % len(bits)]


def make_run(revision, bits, rules):
    """Make tries from try 0 on until the run is decided."""
    spare = rules.most - rules.need
    tries = 0
    passes = 0
    while passes < rules.need and tries - passes <= spare:
        passes += outcome_of_try(bits, tries)
        tries += 1
    return Run(revision, passes >= rules.need, tries, passes)
