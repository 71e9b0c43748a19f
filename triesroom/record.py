"""What is remembered of one test: its kept runs and its quarantine."""

MOST_REMEMBERED = 64


class Record:
    """The kept runs of a test, the last first, and where it stands."""

    def __init__(self):
        self.kept = []
        self.count = 0
        self.quarantined = False

    def flaky_score(self, window):
        """Count the flaky ones among the last runs that the window and the count reach."""
        reach = min(window, self.count)
        return len([run for run in self.kept[:reach] if not run.is_clean()])

    def calm_length(self):
        """Count the last clean runs, back to the first flaky one or as far as the count reaches."""
        length = 0
        for run in self.kept[:self.count]:
            if not run.is_clean():
                break
            length += 1
        return length

    def move(self, quarantined):
        """Bring the test into quarantine or out of it."""
        self.quarantined = quarantined
        self.count = 0

    def keep(self, run, rules):
        """Remember a run as the last one, and move the test if the rules say so."""
        self.kept = [run] + self.kept[:MOST_REMEMBERED - 1]
        self.count = min(self.count + 1, MOST_REMEMBERED)
        if self.quarantined:
            if self.calm_length() >= rules.calm:
                self.move(False)
        elif self.flaky_score(rules.window) >= rules.limit:
            self.move(True)
