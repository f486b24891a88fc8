"""Point 18: shelves, their rules, and what becomes of requests."""

import random
import unittest

from buildroom.errors import BadRequests, BadShelf
from buildroom.shelves import shelf_course, shelf_hits, shelf_lies
from tests.helpers import STRANGE, fault
from tests.models import shelf_model

RULES = ("eldest", "lately", "newest", "seldom", "best")
KINDS = tuple([(rule, room) for rule in RULES for room in (1, 2, 3)])


def thrown(rule, room, *requests):
    return [out for _, out in shelf_course((rule, room), requests)]


def most_hits(room, requests):
    """The greatest number of hits of all choices of what is thrown out."""
    best = {(): 0}
    for thing in requests:
        behind = {}
        for lot, hits in best.items():
            if thing in lot:
                lots, hits = [lot], hits + 1
            elif len(lot) < room:
                lots = [lot + (thing,)]
            else:
                lots = [lot[:at] + lot[at + 1:] + (thing,) for at in range(room)]
            for other in lots:
                behind[other] = max(hits, behind.get(other, 0))
        best = behind
    return max(best.values())


class Rules(unittest.TestCase):
    def test_eldest(self):
        self.assertEqual(thrown("eldest", 2, 0, 1, 0, 2, 0, 3), [None, None, None, 0, 1, 2])
        self.assertEqual(thrown("eldest", 3, 5, 6, 7, 5, 5, 8, 9), [None, None, None, None, None, 5, 6])

    def test_lately(self):
        self.assertEqual(thrown("lately", 2, 0, 1, 0, 2, 0, 3), [None, None, None, 1, None, 2])
        self.assertEqual(thrown("lately", 3, 5, 6, 7, 5, 6, 8, 9), [None, None, None, None, None, 7, 5])

    def test_newest(self):
        self.assertEqual(thrown("newest", 2, 0, 1, 0, 2, 0, 3), [None, None, None, 1, None, 2])
        self.assertEqual(thrown("newest", 3, 5, 6, 7, 5, 8, 7, 6), [None, None, None, None, 7, 8, None])

    def test_seldom(self):
        self.assertEqual(thrown("seldom", 2, 0, 1, 0, 2, 2, 3), [None, None, None, 1, None, 0])
        self.assertEqual(thrown("seldom", 2, 0, 0, 0, 1, 1, 2), [None, None, None, None, None, 0])
        self.assertEqual(thrown("seldom", 2, 1, 0, 0, 0, 1, 2), [None, None, None, None, None, 1])
        self.assertEqual(thrown("seldom", 3, 0, 1, 2, 0, 3, 1, 3, 4), [None, None, None, None, 1, 2, None, 1])

    def test_seldom_counts_since_a_thing_came(self):
        self.assertEqual(thrown("seldom", 2, 0, 0, 1, 1, 2, 0, 3), [None, None, None, None, 0, 2, 0])

    def test_best(self):
        self.assertEqual(thrown("best", 2, 0, 1, 2, 0, 1), [None, None, 1, None, 0])
        self.assertEqual(thrown("best", 2, 0, 1, 2, 1, 0), [None, None, 0, None, 1])
        self.assertEqual(thrown("best", 2, 5, 4, 3), [None, None, 4])
        self.assertEqual(thrown("best", 3, 5, 4, 3, 2, 3), [None, None, None, 4, None])
        self.assertEqual(thrown("best", 3, 1, 2, 3, 4, 3, 2), [None, None, None, 1, None, None])
        self.assertEqual(thrown("best", 2, 3, 2, 1, 2, 2), [None, None, 3, None, None])

    def test_the_thing_that_is_asked_for_is_put_there_though_it_is_never_asked_for_again(self):
        self.assertEqual(shelf_course(("best", 1), (0, 1, 0)), [(False, None), (False, 0), (False, 1)])
        self.assertEqual(shelf_lies(("best", 1), (0, 1)), (1,))

    def test_room_for_one(self):
        for rule in RULES:
            self.assertEqual(shelf_course((rule, 1), (3, 3, 9, 3)),
                             [(False, None), (True, None), (False, 3), (False, 9)])
            self.assertEqual([shelf_hits((rule, 1), (3, 3, 9, 3)), shelf_lies((rule, 1), (3, 3, 9, 3))], [1, (3,)])

    def test_no_requests(self):
        for kind in KINDS:
            self.assertEqual([shelf_course(kind, ()), shelf_hits(kind, ()), shelf_lies(kind, ())], [[], 0, ()])

    def test_what_lies_there_ascends(self):
        for rule in RULES:
            self.assertEqual(shelf_lies((rule, 3), (7, 0, 5)), (0, 5, 7))

    def test_forty_requests_for_one_thing(self):
        for kind in KINDS:
            self.assertEqual([shelf_hits(kind, (4,) * 40), shelf_lies(kind, (4,) * 40)], [39, (4,)])

    def test_against_the_model(self):
        dice = random.Random(18)
        for number in range(600):
            kind = KINDS[number % len(KINDS)]
            things = dice.randint(2, 10)
            requests = tuple([dice.randrange(things) for _ in range(dice.randint(0, 40))])
            with self.subTest(kind, requests=requests):
                course, lies = shelf_model(kind, requests)
                self.assertEqual(shelf_course(kind, requests), course)
                self.assertEqual([shelf_hits(kind, requests), shelf_lies(kind, requests)],
                                 [len([1 for hit, _ in course if hit]), lies])
                self.assertTrue(all(hit is True or hit is False for hit, _ in shelf_course(kind, requests)))

    def test_no_choices_have_more_hits_than_best(self):
        dice = random.Random(19)
        for _ in range(300):
            room = dice.randint(1, 3)
            requests = tuple([dice.randrange(dice.randint(2, 6)) for _ in range(dice.randint(0, 25))])
            self.assertEqual(shelf_hits(("best", room), requests), most_hits(room, requests) if requests else 0)


class Wrong(unittest.TestCase):
    def test_kinds(self):
        wrong = ("", (), "eldest", ("eldest",), ("eldest", 0), ("eldest", 4), ("eldest", True), ("eldest", "1"),
                 ("eldest", None), ("eldest", (1,)), (1, "eldest"),
                 ("Eldest", 1), ("oldest", 1), (None, 1), (("eldest",), 1), (["eldest"], 1), ["eldest", 1],
                 {"eldest": 1}, ("eldest", 1, 1), ("best", -1))
        for value in STRANGE + wrong:
            with self.subTest(value=value):
                for call in (shelf_course, shelf_hits, shelf_lies):
                    self.assertEqual(fault(call, value, None), (BadShelf, {}))

    def test_requests(self):
        for call in (shelf_course, shelf_hits, shelf_lies):
            for kind in (("eldest", 1), ("best", 3)):
                for value in STRANGE + ("", [0], {0: 0}, range(3), (0,) * 41, (None,) * 41, "012"):
                    index = 0 if isinstance(value, tuple) and len(value) < 41 else None
                    with self.subTest(value=value):
                        self.assertEqual(fault(call, kind, value), (BadRequests, {"index": index}))
                for thing in (-1, 10, True, False, "0", None, (0,), [0], {}, {0: 0}, 10 ** 30):
                    self.assertEqual(fault(call, kind, (0, 9, thing, None)), (BadRequests, {"index": 2}))
                    self.assertEqual(fault(call, kind, (0,) * 39 + (thing,)), (BadRequests, {"index": 39}))
                self.assertEqual(fault(call, kind, (0, 9) * 20)[0], "returned")


if __name__ == "__main__":
    unittest.main()
