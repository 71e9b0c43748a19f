"""A line of calls, and what is answered to it."""

from triesroom.room import Room

POLICY = 0
TESTS = 1
TELL = 2
OUTCOME = 3
DRY = 4
RUN = 5
CHECK = 6
HISTORY = 7
SCORE = 8
HELD = 9
HOLD = 10

# How many whole numbers each call has, by the call's number; the row of tell comes behind them.
WHOLE_NUMBERS = {0: 5, 1: 1, 2: 2, 3: 3, 4: 2, 5: 2, 6: 1, 7: 1, 8: 1, 9: 0, 10: 2, 11: 2}


class UnknownCall(ValueError):
    """A number stands where a call begins, and no call has it."""


def end_of_call(calls, start):
    """Give the place behind the call that begins at start."""
    kind = calls[start]
    if kind not in WHOLE_NUMBERS:
        raise UnknownCall(f"no call has the number {kind}")
    end = start + 1 + WHOLE_NUMBERS[kind]
    if kind == TELL:
        end += 1 + calls[end]
    return end


def answer_to_call(room, kind, numbers):
    """Make one call on the room; numbers is what stands behind the call's number."""
    if kind == POLICY:
        return room.policy(numbers[0], numbers[1], numbers[2], numbers[3], numbers[4])
    if kind == TESTS:
        return room.tests(numbers[0])
    if kind == TELL:
        # The number ahead of the row is its length, which the row itself tells too.
        return room.tell(numbers[0], numbers[1], numbers[3:])
    if kind == OUTCOME:
        return room.outcome(numbers[0], numbers[1], numbers[2])
    if kind == DRY:
        return room.dry(numbers[0], numbers[1])
    if kind == RUN:
        return room.run(numbers[0], numbers[1])
    if kind == CHECK:
        return room.check(numbers[0])
    if kind == HISTORY:
        return room.history(numbers[0])
    if kind == SCORE:
        return room.score(numbers[0])
    if kind == HELD:
        return room.held()
    if kind == HOLD:
        return room.hold(numbers[0], numbers[1])
    # Odds, number 11, is left: end_of_call lets no number through that no call has.
    return room.odds(numbers[0], numbers[1])


def answers(calls):
    """Answer the calls of a line: for each, how many numbers are answered, then these."""
    room = Room()
    answered = []
    place = 0
    while place < len(calls):
        end = end_of_call(calls, place)
        answer = answer_to_call(room, calls[place], calls[place + 1:end])
        answered.append(len(answer))
        answered.extend(answer)
        place = end
    return answered
