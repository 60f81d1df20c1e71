"""Powers, roots and numbers of heights, for integers of many digits."""


def power(base, exponent):
    """Return the base to the power of the exponent, neither of them negative."""
    result = 1
    for k in reversed(range(exponent.bit_length())):
        result = result * result
        if exponent >> k & 1:
            result = result * base
    return result


def root(number, n):
    """Return the greatest integer whose power of n is at most the number; n is positive, the number not negative."""
    low = 0
    # 2 to the power of the number's bits is greater than the number.
    high = 1 << (number.bit_length() // n + 1)
    while high - low > 1:
        middle = (low + high) // 2
        if power(middle, n) <= number:
            low = middle
        else:
            high = middle
    return low


def count_of_heights(thing_number, n):
    """Return how many plain heights with n items have so many things.

    Their cards are any ones that are at most the number of things, and not all below it.
    """
    return power(thing_number + 1, n) - power(thing_number, n)
