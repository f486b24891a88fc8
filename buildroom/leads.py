"""Leads of one kind of shelf over another one: hits that it has more, by rows of requests of any length."""

from buildroom.counts import is_from_to
from buildroom.errors import BadLength, BadThings, TooManyStates
from buildroom.shelves import check_shelf
from buildroom.states import first_state, is_state, next_state

MOST_THINGS = 4
MOST_PAIRS = 3000
LONGEST_ROW = 40
LEAST_NUMBER = -1000000


class Race:
    """All pairs of states that two kinds of shelves can come to, told by numbers, and what requests do there.

    Number 0 is the pair at the beginning; moves has, for each pair and each request, the number of the next pair and
    the lead of this request.
    """

    def __init__(self, one, other, things):
        self.one = one
        self.other = other
        start = (first_state(one), first_state(other))
        self.pairs = [start]
        self.places = {start: 0}
        self.moves = []
        while len(self.moves) < len(self.pairs):
            self.moves.append([self.move(self.pairs[len(self.moves)], thing) for thing in range(things)])

    def move(self, pair, thing):
        """The number of the next pair behind a request, and the lead of this request."""
        then, gain = next_pair(self.one, self.other, pair, thing)
        if then not in self.places:
            self.places[then] = len(self.pairs)
            self.pairs.append(then)
        return (self.places[then], gain)


def lead(one, other, things):
    """The greatest number of hits that the kind other has more than the kind one by a row, None if there is none."""
    leads = greatest_leads(race_of(one, other, things).moves)
    return None if leads is None else max(list(leads.values()))


def lead_row(one, other, things):
    """The least of the shortest rows that have the greatest lead, None if leads grow for ever."""
    moves = race_of(one, other, things).moves
    leads = greatest_leads(moves)
    if leads is None:
        return None
    most = max(list(leads.values()))
    ahead = [[0] * len(moves)]
    while ahead[-1][0] < most:
        ahead.append(leads_by_one_more(moves, ahead[-1]))
    return least_row(moves, ahead)


def lead_loop(one, other, things):
    """A head and a loop, each further one of which has the same lead above 0; None if leads do not grow for ever."""
    moves = race_of(one, other, things).moves
    if greatest_leads(moves) is not None:
        return None
    layers, loops = [{0: (0, None, None)}], []
    while not loops:
        layers.append(next_layer(moves, layers[-1]))
        found = [loop_to(layers, place) for place in layers[-1]]
        loops = [pair for pair in found if pair is not None]
    return loops[0]


def lead_paper(one, other, things):
    """All pairs of states that can be, ascending, each with the greatest lead of rows to it; None if leads grow."""
    race = race_of(one, other, things)
    leads = greatest_leads(race.moves)
    if leads is None:
        return None
    return sorted([(pair, leads[number]) for number, pair in enumerate(race.pairs)])


def lead_shows(one, other, things, bound, value):
    """Whether any value shows that no lead is above the bound: numbers of pairs of states that no request breaks."""
    check_shelves(one, other, things)
    check_length(bound)
    if not isinstance(value, (list, tuple)):
        return False
    if not all([is_numbered_pair(one, other, things, bound, thing) for thing in value]):
        return False
    numbers = {pair: number for pair, number in value}
    start = (first_state(one), first_state(other))
    if len(numbers) < len(value) or numbers.get(start, -1) < 0:
        return False
    for pair, number in value:
        for thing in range(things):
            then, gain = next_pair(one, other, pair, thing)
            if then not in numbers or numbers[then] < number + gain:
                return False
    return True


def lead_by_length(one, other, things, length):
    """The greatest lead by rows of just so many requests, and the least such row."""
    check_shelves(one, other, things)
    check_length(length)
    moves = Race(one, other, things).moves
    ahead = [[0] * len(moves)]
    for _ in range(length):
        ahead.append(leads_by_one_more(moves, ahead[-1]))
    return (ahead[-1][0], least_row(moves, ahead))


def lead_count(one, other, things, length):
    """The number of rows of just so many requests by which the lead is above 0."""
    check_shelves(one, other, things)
    check_length(length)
    moves = Race(one, other, things).moves
    rows = {(0, 0): 1}
    for _ in range(length):
        rows = rows_by_one_more(moves, rows)
    return sum([many for (_, won), many in rows.items() if won > 0])


def race_of(one, other, things):
    """The race of two kinds; an error for wrong values, and if there are too many pairs of states."""
    check_shelves(one, other, things)
    race = Race(one, other, things)
    if len(race.pairs) > MOST_PAIRS:
        raise TooManyStates(MOST_PAIRS)
    return race


def next_pair(one, other, pair, thing):
    """The pair of states behind a request, and the lead of this request."""
    one_hit, one_state = next_state(one, pair[0], thing)
    other_hit, other_state = next_state(other, pair[1], thing)
    return ((one_state, other_state), int(other_hit) - int(one_hit))


def greatest_leads(moves):
    """A dict of the greatest lead of rows to each pair, None if leads grow for ever.

    Each pair has noted the one ahead of it by its greatest lead so far; leads grow for ever just if these go round.
    """
    leads, came, level = {0: 0}, {}, [0]
    while level:
        changed = {}
        for place in level:
            for then, gain in moves[place]:
                if then not in leads or leads[place] + gain > leads[then]:
                    leads[then] = leads[place] + gain
                    came[then] = place
                    changed[then] = True
        if goes_round(came):
            return None
        level = list(changed)
    return leads


def goes_round(came):
    """Whether one comes to the same place again by going back from it."""
    walks = {}
    for begin in came:
        place = begin
        while place in came and place not in walks:
            walks[place] = begin
            place = came[place]
        if place in came and walks[place] == begin:
            return True
    return False


def leads_by_one_more(moves, ahead):
    """The greatest lead from each pair by one more request than those of the list ahead."""
    return [max([ahead[then] + gain for then, gain in row]) for row in moves]


def least_row(moves, ahead):
    """The least row from the beginning with the greatest lead; ahead tells leads by 0, 1, .. requests more."""
    row, place = [], 0
    for left in reversed(range(len(ahead) - 1)):
        leads = [ahead[left][then] + gain for then, gain in moves[place]]
        row.append(leads.index(max(leads)))
        place = moves[place][row[-1]][0]
    return tuple(row)


def rows_by_one_more(moves, rows):
    """For each pair and lead the number of rows, by one more request than those that are told."""
    found = {}
    for (place, won), many in rows.items():
        for then, gain in moves[place]:
            found[then, won + gain] = found.get((then, won + gain), 0) + many
    return found


def next_layer(moves, layer):
    """For each pair, by one more request: the greatest lead, the place ahead, and the request that leads from it."""
    found = {}
    for place in layer:
        for thing, (then, gain) in enumerate(moves[place]):
            won = layer[place][0] + gain
            if then not in found or won > found[then][0]:
                found[then] = (won, place, thing)
    return found


def loop_to(layers, end):
    """The head and the loop of the row to a place of the last layer, if it was there with a lesser lead; else None."""
    place, row = end, ()
    for at in range(len(layers) - 1, 0, -1):
        row = (layers[at][place][2],) + row
        place = layers[at][place][1]
        if place == end and layers[at - 1][place][0] < layers[-1][end][0]:
            return (row_to(layers[:at], end), row)
    return None


def row_to(layers, end):
    """The row to a place of the last layer."""
    place, row = end, ()
    for layer in reversed(layers[1:]):
        row = (layer[place][2],) + row
        place = layer[place][1]
    return row


def is_numbered_pair(one, other, things, bound, value):
    """Whether any value is a tuple of a pair of states and a number up to the bound."""
    if not isinstance(value, tuple) or len(value) != 2 or not is_from_to(value[1], LEAST_NUMBER, bound):
        return False
    pair = value[0]
    if not isinstance(pair, tuple) or len(pair) != 2:
        return False
    return is_state(one, things, pair[0]) and is_state(other, things, pair[1])


def check_shelves(one, other, things):
    """Raise an error for wrong values of two kinds of shelves and of the number of things."""
    check_shelf(one)
    check_shelf(other)
    if not is_from_to(things, 1, MOST_THINGS):
        raise BadThings()


def check_length(value):
    """Raise an error for any value that is no length of a row, and no bound."""
    if not is_from_to(value, 0, LONGEST_ROW):
        raise BadLength()
