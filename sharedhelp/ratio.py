"""Fractions: two whole numbers, the numerator and the denominator, which is 1 at least."""


def common_divisor(a, b):
    """The greatest common divisor of two numbers that are not below 0 and not both 0."""
    while b != 0:
        rest = a % b
        a = b
        b = rest
    return a


def lowest(numerator, denominator):
    """The fraction in lowest terms; the denominator handed over is 1 at least."""
    divisor = common_divisor(abs(numerator), denominator)
    return (numerator // divisor, denominator // divisor)
