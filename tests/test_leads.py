"""Points 19 to 21: leads of one kind of shelf over another one, and papers that show them."""

import functools
import itertools
import random
import unittest

from buildroom.errors import BadLength, BadShelf, BadThings, TooManyStates
from buildroom.leads import lead, lead_by_length, lead_count, lead_loop, lead_paper, lead_row, lead_shows
from buildroom.shelves import shelf_course, shelf_hits
from tests.helpers import STRANGE, fault
from tests.models import shelf_model

RULES = ("eldest", "lately", "newest", "seldom", "best")
KINDS = tuple([(rule, room) for rule in RULES for room in (1, 2, 3)])
PAIRS = tuple(itertools.product(KINDS, KINDS))


def lead_by(one, other, row):
    """The lead by a row, which may be of any length, of shelves that do not know all requests."""
    return sum([hit for hit, _ in shelf_model(other, row)[0]]) - sum([hit for hit, _ in shelf_model(one, row)[0]])


@functools.lru_cache(maxsize=None)
def state_model(kind, row):
    """The state of a shelf behind a row, by what point 20 says of it."""
    rule, room = kind
    if rule == "best":
        return best_model(room, row)[0]
    came, last, many = {}, {}, {}
    for at, (thing, (hit, out)) in enumerate(zip(row, shelf_model(kind, row)[0])):
        came.pop(out, None)
        came[thing] = came[thing] if hit else at
        many[thing] = min(2, many[thing] + 1) if hit else 1
        last[thing] = at
    if rule == "seldom":
        return tuple([(thing, many[thing]) for thing in sorted(came, key=came.get)])
    return tuple(sorted(came, key=last.get if rule == "lately" else came.get))


@functools.lru_cache(maxsize=None)
def best_model(room, row):
    """The state of a shelf by "best" behind a row, and its hits: those of the best way."""
    ways, hits = {(): 0}, 0
    for thing in row:
        behind = {}
        for lot, many in ways.items():
            if thing in lot:
                behind[lot] = max(many + 1, behind.get(lot, 0))
                continue
            for left in ([lot] if len(lot) < room else list(itertools.combinations(lot, room - 1))):
                there = tuple(sorted(left + (thing,)))
                behind[there] = max(many, behind.get(there, 0))
        hits = max(behind.values())
        ways = {lot: many for lot, many in behind.items() if hits - many < room}
    return tuple(sorted([(lot, hits - many) for lot, many in ways.items()])), hits


def pairs_model(one, other, things):
    """All pairs of states that can be, each with a row to it, told by the models of states alone."""
    rows = {(state_model(one, ()), state_model(other, ())): ()}
    level = [()]
    while level:
        behind = []
        for row in level:
            for thing in range(things):
                pair = (state_model(one, row + (thing,)), state_model(other, row + (thing,)))
                if pair not in rows:
                    rows[pair] = row + (thing,)
                    behind.append(row + (thing,))
        level = behind
    return rows


@functools.lru_cache(maxsize=None)
def hits(kind, row):
    return best_model(kind[1], row)[1] if kind[0] == "best" else sum([hit for hit, _ in shelf_model(kind, row)[0]])


class Leads(unittest.TestCase):
    def test_against_all_short_rows(self):
        for one, other in PAIRS:
            for things, most in ((1, 4), (2, 6), (3, 5)):
                rows = {many: list(itertools.product(range(things), repeat=many)) for many in range(most + 1)}
                leads = {row: shelf_hits(other, row) - shelf_hits(one, row) for many in rows for row in rows[many]}
                with self.subTest(one=one, other=other, things=things):
                    for many in (0, 1, most - 1, most):
                        best = max([leads[row] for row in rows[many]])
                        self.assertEqual(lead_by_length(one, other, things, many),
                                         (best, [row for row in rows[many] if leads[row] == best][0]))
                        self.assertEqual(lead_count(one, other, things, many),
                                         len([row for row in rows[many] if leads[row] > 0]))
                    self.hold(one, other, things, leads)

    def hold(self, one, other, things, leads):
        """The greatest lead of all rows against those of all short ones."""
        best = lead(one, other, things)
        if best is None:
            self.assertIsNone(lead_row(one, other, things))
            return
        row = lead_row(one, other, things)
        self.assertIsNone(lead_loop(one, other, things))
        self.assertLessEqual(max(leads.values()), best)
        self.assertEqual(hits(other, row) - hits(one, row), best)
        found = [row for row in leads if leads[row] == best]
        if found:
            self.assertEqual(row, found[0])

    def test_four_things(self):
        dice = random.Random(21)
        for one, other in dice.sample(PAIRS, 40):
            rows = list(itertools.product(range(4), repeat=5))
            leads = [shelf_hits(other, row) - shelf_hits(one, row) for row in rows]
            with self.subTest(one=one, other=other):
                self.assertEqual(lead_by_length(one, other, 4, 5), (max(leads), rows[leads.index(max(leads))]))
                self.assertEqual(lead_count(one, other, 4, 5), len([many for many in leads if many > 0]))

    def test_as_many_things_as_room(self):
        for one, other in PAIRS:
            things = min(one[1], other[1])
            self.assertEqual([lead(one, other, things), lead_row(one, other, things), lead_loop(one, other, things)],
                             [0, (), None])
            self.assertEqual([lead_by_length(one, other, things, 40), lead_count(one, other, things, 40)],
                             [(0, (0,) * 40), 0])

    def test_more_room_grows_for_ever(self):
        for rule in RULES:
            for room in (1, 2):
                self.assertIsNone(lead((rule, room), (rule, room + 1), room + 1))
                self.assertIsNone(lead_row((rule, room), (rule, room + 1), room + 1))

    def test_more_room_never_has_fewer_hits_by_lately_and_best(self):
        for rule in ("lately", "best"):
            for one, other in ((1, 2), (2, 3), (1, 3)):
                self.assertEqual([lead((rule, other), (rule, one), 4), lead_row((rule, other), (rule, one), 4)],
                                 [0, ()])

    def test_nothing_leads_over_best(self):
        for rule in RULES:
            for room in (1, 2):
                self.assertEqual(lead(("best", room), (rule, room), 4), 0)

    def test_loops(self):
        grows = 0
        for one, other in PAIRS:
            for things in (2, 3, 4):
                told, error = fault(lead_loop, one, other, things)
                if told != "returned" or error is None:
                    continue
                grows += 1
                head, loop = error
                with self.subTest(one=one, other=other, things=things):
                    self.assertIsInstance(error, tuple)
                    self.assertTrue(isinstance(head, tuple) and isinstance(loop, tuple) and loop)
                    self.assertTrue(all(0 <= thing < things for thing in head + loop))
                    for kind in (one, other):
                        self.assertEqual(state_model(kind, head), state_model(kind, head + loop))
                    by = [hits(other, head + loop * many) - hits(one, head + loop * many) for many in range(4)]
                    self.assertGreater(by[1], by[0])
                    self.assertEqual([by[1] - by[0]] * 2, [by[2] - by[1], by[3] - by[2]])
                    self.assertIsNone(lead(one, other, things))
                    self.assertIsNone(lead_paper(one, other, things))
        self.assertGreater(grows, 100)

    def test_rows_of_no_and_of_forty_requests(self):
        for one, other in PAIRS[::7]:
            self.assertEqual([lead_by_length(one, other, 3, 0), lead_count(one, other, 3, 0)], [(0, ()), 0])
            best, row = lead_by_length(one, other, 3, 40)
            self.assertEqual([len(row), hits(other, row) - hits(one, row)], [40, best])
        self.assertEqual(lead_by_length(("eldest", 1), ("eldest", 2), 2, 40), (38, (0, 1) * 20))
        self.assertEqual(lead_count(("eldest", 1), ("eldest", 2), 2, 40), 2 ** 40 - 2 - 2 * 39)
        self.assertEqual(lead_count(("eldest", 2), ("eldest", 1), 2, 40), 0)

    def test_the_answers_of_lengths_fit_together(self):
        for one, other in PAIRS[::5]:
            best = lead(one, other, 3)
            leads = [lead_by_length(one, other, 3, many)[0] for many in range(13)]
            self.assertTrue(all(-1 <= two - one <= 1 for one, two in zip(leads, leads[1:])))
            if best is not None:
                self.assertLessEqual(max(leads), best)
                self.assertEqual(lead_by_length(one, other, 3, len(lead_row(one, other, 3))),
                                 (best, lead_row(one, other, 3)))


class Papers(unittest.TestCase):
    def test_all_pairs_of_states_with_their_greatest_leads(self):
        told = 0
        for one, other in PAIRS:
            for things in (1, 2, 3):
                paper = lead_paper(one, other, things)
                if paper is None:
                    continue
                told += 1
                with self.subTest(one=one, other=other, things=things):
                    pairs = pairs_model(one, other, things)
                    self.assertIsInstance(paper, list)
                    self.assertEqual([pair for pair, _ in paper], sorted(pairs))
                    numbers = dict(paper)
                    for pair, row in pairs.items():
                        self.assertGreaterEqual(numbers[pair], hits(other, row) - hits(one, row))
                    # The greatest lead to each pair is that to one ahead of it and of the request between.
                    ways = {pair: [0] * (row == ()) for pair, row in pairs.items()}
                    for pair, row in pairs.items():
                        for thing in range(things):
                            further = row + (thing,)
                            gain = hits(other, further) - hits(other, row) - hits(one, further) + hits(one, row)
                            ways[state_model(one, further), state_model(other, further)].append(numbers[pair] + gain)
                    self.assertEqual(numbers, {pair: max(found) for pair, found in ways.items()})
                    self.assertEqual(max(numbers.values()), lead(one, other, things))
        self.assertGreater(told, 300)

    def test_states_of_four_things(self):
        for one, other in ((("best", 3), ("best", 3)), (("best", 2), ("seldom", 2)), (("best", 3), ("lately", 3)),
                           (("best", 2), ("newest", 2))):
            self.assertEqual([pair for pair, _ in lead_paper(one, other, 4)], sorted(pairs_model(one, other, 4)))

    def test_states_by_hand(self):
        self.assertEqual(lead_paper(("newest", 1), ("seldom", 1), 1),
                         [(((), ()), 0), (((0,), ((0, 1),)), 0), (((0,), ((0, 2),)), 0)])
        self.assertEqual(lead_paper(("best", 2), ("eldest", 1), 3)[:3], [
            (((((), 0),), ()), 0), (((((0,), 0),), (0,)), 0), (((((0, 1), 0),), (0,)), 0)])
        self.assertIn((((((0, 1), 1), ((0, 2), 0)), (0,)), -1), lead_paper(("best", 2), ("eldest", 1), 3))

    def test_papers_show_their_leads(self):
        for one, other in PAIRS:
            paper = lead_paper(one, other, 3)
            if paper is not None:
                with self.subTest(one=one, other=other):
                    best = lead(one, other, 3)
                    for value in (paper, tuple(paper), paper[::-1]):
                        self.assertIs(lead_shows(one, other, 3, best, value), True)
                        self.assertIs(lead_shows(one, other, 3, 40, value), True)
                    self.break_paper(one, other, best, paper)

    def break_paper(self, one, other, best, paper):
        """Papers that are not as they are."""
        self.assertIs(lead_shows(one, other, 3, best, [(pair, number + 1) for pair, number in paper]), False)
        self.assertIs(lead_shows(one, other, 3, best + 1, [(pair, number + 1) for pair, number in paper]), True)
        self.assertIs(lead_shows(one, other, 3, best, [(pair, number - 1) for pair, number in paper]), False)
        for at in random.Random(len(paper)).sample(range(len(paper)), min(4, len(paper))):
            pair, number = paper[at]
            self.assertIs(lead_shows(one, other, 3, best, paper[:at] + paper[at + 1:]), False)
            self.assertIs(lead_shows(one, other, 3, best, paper + [paper[at]]), False)
            self.assertIs(lead_shows(one, other, 3, best, paper + [(pair, number + 1)]), False)
            self.assertIs(lead_shows(one, other, 3, best, paper[:at] + [(pair, number - 1)] + paper[at + 1:]), False)
            self.assertIs(lead_shows(one, other, 3, best, paper[:at] + [(pair, best + 1)] + paper[at + 1:]), False)

    def test_numbers_that_are_too_high_or_too_low(self):
        one = other = ("lately", 1)
        paper = lead_paper(one, other, 1)
        self.assertEqual(paper, [(((), ()), 0), (((0,), (0,)), 0)])
        for first, second, bound, shows in ((0, 0, 0, True), (0, 1, 1, True), (1, 1, 1, True), (1, 0, 1, False),
                                            (0, 1, 0, False), (-1, 0, 0, False),
                                            (-1, -1, 0, False), (0, -1, 0, False), (40, 40, 40, True),
                                            (40, 41, 40, False), (3, 5, 9, True)):
            self.assertIs(lead_shows(one, other, 1, bound, [(paper[0][0], first), (paper[1][0], second)]), shows)
        # Pairs that cannot be may have numbers down to - 10 ** 6, if what they lead to has as much.
        for kind in (("eldest", 2), ("seldom", 2)):
            start = lead_paper(kind, kind, 1)
            more = [(((((1, 1),), ()) if kind[0] == "seldom" else ((1,), ())), number) for number in (-10 ** 6,
                -10 ** 6 - 1)]
            self.assertEqual([lead_shows(kind, kind, 1, 0, start + [pair]) for pair in more], [False, False])

    def test_pairs_that_cannot_be(self):
        # With two things, behind any request both shelves have the thing alone: such pairs may stand beside.
        kind = ("newest", 1)
        paper = [(((), ()), 0), (((0,), (0,)), 0), (((1,), (1,)), 0)]
        for low, shows in ((-1, True), (0, False), (-10 ** 6, True), (-10 ** 6 - 1, False), (-2, True), (1, False)):
            self.assertIs(lead_shows(kind, kind, 2, 0, paper + [(((0,), (1,)), low)]), shows)
            self.assertIs(lead_shows(kind, kind, 2, 0, paper + [(((), (1,)), low)]), shows)
        self.assertIs(lead_shows(kind, kind, 2, 0, paper + [(((0,), (2,)), -9)]), False)
        self.assertIs(lead_shows(kind, kind, 2, 0, paper + [(((0, 1), (1,)), -9)]), False)

    def test_forms_of_states(self):
        things = ((), (0,), (2, 1)), ([0], None, "0", (None,), ([0],), 0, ((0, 1),)), ((0, 0), (0, 1, 2), (3,), (-1,))
        pairs = ((), ((0, 2),), ((2, 1), (0, 2))), (((0, None),), (0,), ((0,),), ([0, 1],), ((0, 1, 1),), [(0, 1)]), (
            ((0, 0),), ((0, 3),), ((0, 1), (0, 2)), ((0, 1), (1, 1), (2, 1)), ((3, 1),), ((-1, 1),))
        lots = ((((), 0),), (((0,), 0),), (((), 0), ((0,), 1), ((0, 1), 1), ((2,), 0)), (((0, 1), 0), ((0, 2), 0))), (
            (), ((0, 0),), (([0], 0),), (((0,),),), ([(0,), 0],), [((0,), 0)], (((0,), 0, 0),), (((0,), None),),
                ((None, 0),)), (
            (((0,), 1),), (((0,), 2), ((1,), 0)), (((0,), -1), ((1,), 0)), (((0,), 0), ((0,), 0)),
                                (((1,), 0), ((0,), 0)), (((1, 0), 0),),
            (((0, 0), 0),), (((0, 1, 2), 0),), (((3,), 0),), (((-1,), 0),), (((0,), 0), ((1, 2), 1), ((1,), 0)))
        for rule in RULES:
            kind, (good, others, bad) = (rule, 2), {"best": lots, "seldom": pairs}.get(rule, things)
            closed = self.closed(kind, good)
            self.assertIs(lead_shows(kind, kind, 3, 0, closed), True)
            self.assertTrue({(state, state) for state in good} <= {pair for pair, _ in closed})
            for state in others:
                for pair in ((state, closed[0][0][1]), (closed[0][0][0], state), (state, state)):
                    self.assertIs(lead_shows(kind, kind, 3, 0, closed + [(pair, -5)]), False)
            for state in bad:
                with self.subTest(rule, state=state):
                    # All that the state leads to stands there, too: just its form is wrong.
                    self.assertIs(lead_shows(kind, kind, 3, 0, self.closed(kind, good + (state,))), False)

    def test_forms_of_states_with_true_and_false(self):
        for rule, state, wrong in (("eldest", (0, 1), ((False, 1), (0, True))), ("lately", (1,), ((True,),)),
                                   ("newest", (0,), ((False,),)),
                                   ("seldom", ((0, 1),), (((False, 1),), ((0, True),))),
                                   ("best", (((0, 1), 0),), ((((False, 1), 0),), (((0, 1), False),))),
                                   ("best", (((0, 1), 1), ((1, 2), 0)), ((((0, 1), True), ((1, 2), 0)),))):
            closed = self.closed((rule, 2), (state,))
            self.assertIs(lead_shows((rule, 2), (rule, 2), 3, 0, closed), True)
            for other in wrong:
                self.assertIn(other, [pair[0] for pair, _ in closed])
                paper = [((other, other), number) if pair[0] == other else (pair, number) for pair, number in closed]
                self.assertIs(lead_shows((rule, 2), (rule, 2), 3, 0, paper), False)

    def closed(self, kind, states):
        """A paper of a kind over itself with these states, each pair of one state twice, closed by asking which pair lacks."""
        first = (((), 0),) if kind[0] == "best" else ()
        level, found = [first] + list(states), {}
        while level:
            state = level.pop()
            if state not in found:
                found[state] = True
                level.extend([self.behind(kind, state, thing) for thing in range(3)])
        return [((state, state), 0) for state in found]

    def behind(self, kind, state, thing):
        """The state behind a request, of any state of the form of one."""
        rule, room = kind
        if rule == "best":
            ways = {}
            for lot, behind in state:
                if thing in lot:
                    ways.setdefault(lot, []).append(1 - behind)
                    continue
                for left in ([lot] if len(lot) < room else itertools.combinations(lot, room - 1)):
                    ways.setdefault(tuple(sorted(left + (thing,))), []).append(-behind)
            best = max([max(many) for many in ways.values()])
            return tuple(sorted([(lot, best - max(many)) for lot, many in ways.items() if best - max(many) < room]))
        things = [pair[0] for pair in state] if rule == "seldom" else list(state)
        if thing in things:
            if rule == "seldom":
                return tuple([(other, 2 if other == thing else many) for other, many in state])
            return tuple([other for other in state if other != thing]) + (thing,) if rule == "lately" else state
        out = []
        if len(things) == room:
            least = [pair for pair in state if pair[1] == min([many for _,
                                                               many in state])][0] if rule == "seldom" else None
            out = [{"newest": state[-1], "seldom": least}.get(rule, state[0])]
        return tuple([other for other in state if other not in out]) + (((thing, 1),) if rule == "seldom" else (thing,))

    def test_values_that_are_no_papers(self):
        one, other = ("eldest", 1), ("lately", 1)
        paper = lead_paper(one, other, 2)
        self.assertIs(lead_shows(one, other, 2, 0, paper), True)
        for value in STRANGE + ("", (), paper[0], dict(paper), {0: paper}, [paper], (paper,), paper + [None],
                                paper + [()]):
            with self.subTest(value=value):
                self.assertIs(lead_shows(one, other, 2, 0, value), False)
                self.assertIs(lead_shows(one, other, 2, 0, paper + [value]), False)
                self.assertIs(lead_shows(one, other, 2, 0, paper[1:] + [(value, 0)]), False)
                self.assertIs(lead_shows(one, other, 2, 0, paper[1:] + [((value, ()), 0)]),
                              False if value != () else True)
                if not isinstance(value, int) or isinstance(value, bool) or value not in (0,):
                    self.assertIs(lead_shows(one, other, 2, 0, paper[1:] + [(((), ()), value)]), False)
        for thing in ([((), ()), 0], (((), ()), 0, 0), (((), ()),), ([(), ()], 0), (((), (), ()), 0), (((),), 0),
                      (((), ()), False), (((), ()), "0")):
            self.assertIs(lead_shows(one, other, 2, 0, paper[1:] + [thing]), False)

    def test_the_pairs_of_the_other_way_round(self):
        paper = lead_paper(("eldest", 2), ("seldom", 1), 2)
        self.assertIs(lead_shows(("eldest", 2), ("seldom", 1), 2, 0, paper), True)
        self.assertIs(lead_shows(("seldom", 1), ("eldest", 2), 2, 0,
                                 [((two, one), number) for (one, two), number in paper]), False)
        self.assertIs(lead_shows(("eldest", 2), ("eldest", 1), 2, 0, paper), False)


class Wrong(unittest.TestCase):
    calls = (lead, lead_row, lead_loop, lead_paper)

    def test_too_many_states(self):
        for one, other in ((("seldom", 3), ("best", 3)), (("best", 3), ("seldom", 3)), (("seldom", 3), ("best", 2))):
            for call in self.calls:
                self.assertEqual(fault(call, one, other, 4), (TooManyStates, {"most": 3000}))
            self.assertEqual(fault(lead, one, other, 3)[0], "returned")
            self.assertIs(lead_shows(one, other, 4, 0, []), False)
        best, row = lead_by_length(("seldom", 3), ("best", 3), 4, 12)
        self.assertEqual(hits(("best", 3), row) - hits(("seldom", 3), row), best)
        self.assertEqual(lead_count(("best", 3), ("seldom", 3), 4, 9), 0)

    def test_not_too_many_states(self):
        for one, other in ((("seldom", 3), ("newest", 3)), (("seldom", 3), ("seldom", 2)),
                           (("seldom", 3), ("eldest", 3))):
            for call in self.calls:
                self.assertEqual(fault(call, one, other, 4)[0], "returned")

    def test_which_error_comes_first(self):
        good = ("eldest", 1)
        for call in self.calls:
            self.assertEqual(fault(call, None, good, None), (BadShelf, {}))
            self.assertEqual(fault(call, good, None, None), (BadShelf, {}))
            self.assertEqual(fault(call, good, good, 0), (BadThings, {}))
            self.assertEqual(fault(call, ("seldom", 3), ("best", 3), 5), (BadThings, {}))
        for call in (lead_by_length, lead_count, lambda one, other, things,
                     bound: lead_shows(one, other, things, bound, None)):
            self.assertEqual(fault(call, None, good, None, None), (BadShelf, {}))
            self.assertEqual(fault(call, good, None, None, None), (BadShelf, {}))
            self.assertEqual(fault(call, good, good, None, None), (BadThings, {}))
            self.assertEqual(fault(call, good, good, 4, None), (BadLength, {}))

    def test_any_value(self):
        good = ("eldest", 1)
        for value in STRANGE + ("", (), ("eldest", 0), ("eldest", 4), ["eldest", 1], -1, 5, 41, "1", (1,), [1]):
            with self.subTest(value=value):
                for call in self.calls:
                    self.assertEqual(fault(call, value, good, 2), (BadShelf, {}))
                    self.assertEqual(fault(call, good, value, 2), (BadShelf, {}))
                    if value != 1 or isinstance(value, bool):
                        self.assertEqual(fault(call, good, good, value), (BadThings, {}))
                for call in (lead_by_length, lead_count, lambda one, other, things,
                             bound: lead_shows(one, other, things, bound, None)):
                    self.assertEqual(fault(call, value, good, 2, 0), (BadShelf, {}))
                    self.assertEqual(fault(call, good, value, 2, 0), (BadShelf, {}))
                    if value not in (0, 1, 5) or isinstance(value, bool):
                        self.assertEqual(fault(call, good, good, value, 0), (BadThings, {}))
                        self.assertEqual(fault(call, good, good, 2, value), (BadLength, {}))
        for call in (lead_by_length, lead_count, lambda one, other, things,
                     bound: lead_shows(one, other, things, bound, None)):
            for length in (0, 1, 40):
                self.assertEqual(fault(call, good, good, 1, length)[0], "returned")

    def test_courses_hold_what_the_models_say(self):
        dice = random.Random(22)
        for _ in range(100):
            row = tuple([dice.randrange(4) for _ in range(dice.randint(0, 30))])
            for room in (1, 2, 3):
                self.assertEqual(shelf_hits(("best", room), row), best_model(room, row)[1] if row else 0)
            for kind in KINDS[:12]:
                lots = state_model(kind, row)
                course = shelf_course(kind, row)
                lies = {thing[0] if kind[0] == "seldom" else thing for thing in lots}
                self.assertEqual(len([1 for hit, _ in course if not hit]) - len([1 for _,
                    out in course if out is not None]), len(lies))


if __name__ == "__main__":
    unittest.main()
