"""Orders of one-way webs: the arrows that go back, and an order of the least weight with a table over sets."""

from ringfell.clears import all_sets, without_place
from ringfell.errors import TooMany

MOST_ORDERED = 7


def back_places(web, order):
    # Where in the row of all arrows those stand that go back.
    stands = {}
    for at, place in enumerate(order):
        stands[place] = at
    return [at for at, arrow in enumerate(web[1]) if stands[arrow[1]] <= stands[arrow[0]]]


def back_arrows(web, order):
    return tuple([web[1][at] for at in back_places(web, order)])


def back_weight(web, worths, order):
    return sum([worths[at] for at in back_places(web, order)])


def worth_rows(web, worths):
    # Of each two places what the arrow from the one to the other is worth, nought without one.
    rows = [[0] * web[0] for place in range(web[0])]
    for arrow, worth in zip(web[1], worths):
        rows[arrow[0]][arrow[1]] = worth
    return rows


def last_weight(rows, least, places, place):
    # The least that these places weigh, standing first, with this one as the last of them.
    rest = without_place(places, place)
    return least[rest] + sum([rows[place][other] for other in rest])


def set_weights(many, rows):
    least = {}
    for places in all_sets(tuple(range(many))):
        if places == ():
            least[places] = sum([rows[place][place] for place in range(many)])
        else:
            least[places] = min([last_weight(rows, least, places, place) for place in places])
    return least


def can_begin(rows, least, places, place):
    # Whether some order of the least weight of these places begins with this one.
    rest = without_place(places, place)
    return least[rest] + sum([rows[other][place] for other in rest]) == least[places]


def first_order(many, rows, least):
    rest = tuple(range(many))
    order = []
    while rest:
        place = min([place for place in rest if can_begin(rows, least, rest, place)])
        order.append(place)
        rest = without_place(rest, place)
    return order


def look_few(web):
    if web[0] > MOST_ORDERED:
        raise TooMany("the one-way web has more than seven places")


def least_order(web, worths):
    look_few(web)
    rows = worth_rows(web, worths)
    least = set_weights(web[0], rows)
    return (least[tuple(range(web[0]))], first_order(web[0], rows, least), sorted(least.items()))


def table_shows(web, worths, weight, table):
    look_few(web)
    # Each row follows from those ahead of it, so there is just one right table.
    least = set_weights(web[0], worth_rows(web, worths))
    told = [(tuple(row[0]), row[1]) for row in table]
    return told == sorted(least.items()) and weight == least[tuple(range(web[0]))]
