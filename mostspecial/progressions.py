"""Numbers that go on with a step: what two such rows of numbers have in common."""

from math import gcd


def inverse(number, step):
    """The number from 0 on, below the step, whose product with a number has the remainder 1 by the step.

    The number and the step have no common divisor; if the step is 1, it is 0.
    """
    left, right = step, number % step
    back, forth = 0, 1
    while right > 1:
        times = left // right
        left, right = right, left - times * right
        back, forth = forth, back - times * forth
    return forth % step


def common(one, other):
    """The tuple (a, b) for the numbers that two such tuples both stand for, or None if there are none.

    A tuple (a, b) stands for the numbers a * n + b, where n is any number from 0 on.
    """
    (a, b), (c, d) = one, other
    shared = gcd(a, c)
    if (d - b) % shared != 0:
        return None
    times = (d - b) // shared * inverse(a // shared, c // shared) % (c // shared)
    step, first = a // shared * c, b + a * times
    if first < d:
        first += (d - first + step - 1) // step * step
    return step, first
