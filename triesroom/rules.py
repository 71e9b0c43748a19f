"""The five numbers that say how a test is run and when it is put aside."""

MOST_TRIES = 9
WIDEST_WINDOW = 20
LONGEST_CALM = 20


def are_rules(need, most, window, limit, calm):
    """Say whether each of the five numbers is within its range."""
    if not 1 <= need <= most <= MOST_TRIES:
        return False
    if not 1 <= limit <= window <= WIDEST_WINDOW:
        return False
    return 1 <= calm <= LONGEST_CALM


class Rules:
    """The rules that are in force at one time."""

    def __init__(self, need, most, window, limit, calm):
        self.need = need
        self.most = most
        self.window = window
        self.limit = limit
        self.calm = calm
