"""Ratios, pairs (top, bottom) that no number above 1 divides, the bottom from 1 on."""


def common_divisor(one, other):
    while other != 0:
        rest = one % other
        one = other
        other = rest
    return abs(one)


def ratio_of(top, bottom=1):
    divisor = common_divisor(top, bottom)
    return (top // divisor, bottom // divisor)


def ratio_plus(one, other):
    return ratio_of(one[0] * other[1] + other[0] * one[1], one[1] * other[1])


def ratio_minus(one, other):
    return ratio_plus(one, (-other[0], other[1]))


def ratio_times(one, other):
    return ratio_of(one[0] * other[0], one[1] * other[1])


def ratio_less(one, other):
    return one[0] * other[1] < other[0] * one[1]


def is_ratio(thing):
    return thing[1] >= 1 and common_divisor(thing[0], thing[1]) == 1
