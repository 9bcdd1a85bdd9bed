"""One-way webs on boards: as many rounds with no common arrow as the fewest arrows that clear."""

from ringfell.errors import BadBoard, TooMany
from ringfell.oneways import all_rounds, round_arrows
from ringfell.orders import back_arrows, first_order, set_weights, worth_rows
from ringfell.turning import arrows_clear, goes_by, is_formed_round, without_arrows
from ringfell.webs import is_rising

MOST_ON_BOARD = 9


def are_beside(columns, one, other):
    return abs(one // columns - other // columns) + abs(one % columns - other % columns) == 1


def is_board(rows, columns, web):
    if rows < 1 or columns < 1 or rows * columns != web[0]:
        return False
    return all([are_beside(columns, arrow[0], arrow[1]) for arrow in web[1]])


def look_board(rows, columns, web):
    if not is_board(rows, columns, web):
        raise BadBoard("the one-way web isn't on this board")
    if web[0] > MOST_ON_BOARD:
        raise TooMany("the board has more than nine places")


def fewest_arrows(web):
    worths = worth_rows(web, [1] * len(web[1]))
    return back_arrows(web, first_order(web[0], worths, set_weights(web[0], worths)))


def fitting_round(web, arrows):
    # A round without whose arrows one arrow less will do; arrows are as few as any that clear. Short
    # ones come first, as they leave the most to the others.
    for places in sorted(all_rounds(web), key=len):
        if len(goes_by(arrows, places)) == 1:
            if len(fewest_arrows(without_arrows(web, round_arrows(places)))) == len(arrows) - 1:
                return places


def rounds_apart(web, arrows):
    # What is left is on the board, too: so as long as arrows are needed, some round fits.
    rounds = []
    while arrows:
        places = fitting_round(web, arrows)
        rounds.append(places)
        gone = round_arrows(places)
        web = without_arrows(web, gone)
        arrows = [arrow for arrow in arrows if arrow not in gone]
    return sorted(rounds)


def board_cut(rows, columns, web):
    look_board(rows, columns, web)
    arrows = fewest_arrows(web)
    return (arrows, rounds_apart(web, arrows))


def are_rounds_apart(web, rounds):
    met = []
    for places in rounds:
        if not is_formed_round(web, places):
            return False
        met.extend(round_arrows(places))
    return is_rising(rounds) and len(set(met)) == len(met)


def board_right(rows, columns, web, arrows, rounds):
    look_board(rows, columns, web)
    cut = [tuple(arrow) for arrow in arrows]
    ways = [tuple(places) for places in rounds]
    if len(cut) != len(ways) or not is_rising(cut) or not all([arrow in web[1] for arrow in cut]):
        return False
    return arrows_clear(web, cut) and are_rounds_apart(web, ways)
