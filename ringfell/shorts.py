"""Short numbers: how few places the least ring of a web with many ties has at most."""


def moore_least(g):
    doubled = 1
    for level in range(g // 2):
        doubled = doubled * 2
    if g % 2 == 1:
        return 1 + 3 * (doubled - 1)
    return 2 * (doubled - 1)


def short_most(many):
    g = 0
    while moore_least(g + 1) <= many:
        g += 1
    return g
