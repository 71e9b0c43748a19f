"""The exact odds that a run passes."""


def common_divisor(first, second):
    """Give the greatest common divisor of two whole numbers that are not both 0."""
    while second > 0:
        remainder = first % second
        first = second
        second = remainder
    return first


def ways_by_passes(a, q, tries):
    """Give, at the place k, in how many ways k of the tries pass, if each passes in a of q ways."""
    ways = [1]
    for made in range(tries):
        by_failing = [many * (q - a) for many in ways] + [0]
        by_passing = [0] + [many * a for many in ways]
        ways = [failing + passing for failing, passing in zip(by_failing, by_passing)]
    return ways


def odds_of_passing(a, q, rules):
    """Give the numerator and the denominator of the chance that a run passes, in lowest terms."""
    # A run stops when it is decided, but tries made after that would not change what was decided:
    # so it passes just where need of all the tries that it may make would pass.
    ways = ways_by_passes(a, q, rules.most)
    numerator = sum(ways[rules.need:])
    denominator = sum(ways)
    divisor = common_divisor(numerator, denominator)
    return [numerator // divisor, denominator // divisor]
