"""Lines of calls written with words, for the tests."""

from triesroom.house import answers

NUMBERS = {"policy": 0, "tests": 1, "tell": 2, "outcome": 3, "dry": 4, "run": 5,
           "check": 6, "history": 7, "score": 8, "held": 9, "hold": 10, "odds": 11}
FAR = 10 ** 18

# Two tries at most, one pass needed: the outcomes below make every sort of run with these.
TWO_TRIES = ("policy", 1, 2, 10, 2, 5)
FLAKY = [0, 1]
ALL_FAIL = [0]
FLAKY_RUN = [1, 2, 1, 0]
CLEAN_RUN = [1, 1, 1, 1]
FAILED_RUN = [0, 2, 0, 1]

# Calls that change nothing and show all that is kept of tests, and two of the rules.
LOOKS = [("held",), ("odds", 1, 3)] + [(call, x) for x in range(12) for call in ("history", "score")]


def line(*calls):
    """Write the calls as the one list that the interface takes."""
    flat = []
    for call in calls:
        flat.append(NUMBERS[call[0]])
        for argument in call[1:]:
            if isinstance(argument, list):
                flat.append(len(argument))
                flat.extend(argument)
            else:
                flat.append(argument)
    return flat


def parts(answered):
    """Cut what is given back into one list for each call."""
    cut = []
    place = 0
    while place < len(answered):
        end = place + 1 + answered[place]
        if end > len(answered) or end == place + 1:
            raise AssertionError(f"a count does not fit at place {place}: {answered}")
        cut.append(answered[place + 1:end])
        place = end
    return cut


def ask(*calls):
    """Give the answers to the calls, a list for each."""
    given = parts(answers(line(*calls)))
    if len(given) != len(calls):
        raise AssertionError(f"{len(calls)} calls, but {len(given)} answers")
    return given


def last(*calls):
    """Give the answer to the last of the calls."""
    return ask(*calls)[-1]


def behind(before, after):
    """Give the answers to the calls of after, which come behind those of before."""
    return ask(*before, *after)[len(before):]


def held_after(*calls):
    """Give what each run of the calls says of quarantine, in order."""
    return [answer[4] for call, answer in zip(calls, ask(*calls)) if call[0] == "run"]


def assert_refused(case, number, before, refused, probes):
    """Check that a call is refused with the number, and that looks and probes find all as it was."""
    calls = [*LOOKS, *probes]
    with case.subTest(refused=refused):
        case.assertEqual(behind(before, [refused]), [[number]])
        case.assertEqual(behind([*before, refused], calls), behind(before, calls))
