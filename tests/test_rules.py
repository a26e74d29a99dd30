import inspect
import itertools
import random
import unittest

from strangerspost import rules
from strangerspost.errors import BadRule, NoFact, NoLot, PostError, TooMany
from strangerspost.rules import (
    Rule, bars_of, closed, enough_of, held, is_closed, is_reasons, needed, reasons, rounds,
)
from tests.things import deep

A, B, C, D, E = [(letter,) for letter in "abcde"]
RIGHT_FACTS = (A, ("a", 0), ("abcdefghijkl", 10 ** 12 - 1, 0, 1, 2))
NO_FACTS = (
    (), ("",), ("A",), ("a b",), ("abcdefghijklm",), ("a\n",), "a", b"a", ["a"], ("a", -1), ("a", 10 ** 12), ("a", True),
    ("a", None), ("a", "0"), ("a", 0, 0, 0, 0, 0), (0,), (None,), (b"a",), (("a",),), 0, None, True, {}, {"a": 0}, deep(40),
    (deep(39),), Rule((), ()),
)
NO_LOTS = (
    [], [0], {}, "", "0", 0, None, True, (2,), (0, 2), (-1,), (1, 0), (0, 0), (True,), (False,), ("0",), (None,), ((0,),),
    (10 ** 39,), range(1), deep(40), Rule((), ()),
)


def fact(number):
    return ("f", number)


def drawn_rule(chance):
    """A small rule drawn by chance."""
    count = chance.randrange(2, 9)
    clauses = []
    for _ in range(chance.randrange(12)):
        body = tuple([fact(chance.randrange(count)) for _ in range(chance.choice((0, 1, 1, 1, 2, 2, 3, 4)))])
        if body or chance.random() < 0.3:
            clauses.append((body, fact(chance.randrange(count))))
    grounds = []
    for _ in range(chance.randrange(5)):
        grounds.append(tuple([fact(chance.randrange(count)) for _ in range(chance.randrange(3))]))
    return Rule(tuple(clauses), tuple(grounds)), count


def plainly_held(rule, lot, without=None):
    """What holds of a lot, by trying each clause until nothing is new."""
    known = {other for at in lot for other in rule.grounds[at]}
    grown = True
    while grown:
        count = len(known)
        for at, (body, head) in enumerate(rule.clauses):
            if at != without and set(body) <= known:
                known.add(head)
        grown = len(known) > count
    return known


def all_lots(count):
    return [lot for size in range(count + 1) for lot in itertools.combinations(range(count), size)]


def least(rows, right):
    found = [lot for lot in rows if right(lot)]
    return [lot for lot in found if not any([set(other) < set(lot) for other in found])]


class RuleCase(unittest.TestCase):

    def refuses(self, error, call, *given):
        with self.assertRaises(PostError) as caught:
            call(*given)
        self.assertIs(caught.exception.__class__, error)
        return caught.exception


class JudgingTest(RuleCase):

    def test_names(self):
        asked = ["rule", "lot", "fact"]
        given = {
            "Rule": ["clauses", "grounds"], "held": ["rule", "lot"], "enough_of": ["rule", "fact"],
            "bars_of": ["rule", "fact"], "reasons": asked, "closed": asked, "rounds": asked, "needed": asked,
            "is_reasons": asked + ["thing"], "is_closed": asked + ["thing"],
        }
        for name, parts in given.items():
            self.assertEqual(list(inspect.signature(getattr(rules, name)).parameters), parts)
            self.assertEqual(getattr(rules, name).__module__, "strangerspost.rules")
        self.assertIn("facts", vars(Rule))

    def bad(self, part, clauses, grounds):
        told = self.refuses(BadRule, Rule, clauses, grounds).part
        self.assertEqual(told, part)
        self.assertIs(told.__class__, part.__class__)

    def test_right_ones(self):
        for one in RIGHT_FACTS:
            for other in RIGHT_FACTS:
                rule = Rule((((one, other, one, other), other), ((), one)), ((), (one, other, one)))
                self.assertEqual(rule.clauses, (((one, other, one, other), other), ((), one)))
                self.assertEqual(rule.grounds, ((), (one, other, one)))
        self.assertEqual(Rule((), ()).facts(), [])
        self.assertEqual(Rule((((B, A), C),), ((A, D), ())).facts(), [A, B, C, D])
        self.assertEqual(Rule((((), ("b", 1)),), ((("b",), ("a", 7)),)).facts(), [("a", 7), ("b",), ("b", 1)])

    def test_no_tuples_of_so_many(self):
        many = (((), A),) * 20001
        for clauses in ([], None, "", 0, {}, True, many, deep(40), [((), A)]):
            self.bad("clauses", clauses, ())
            self.bad("clauses", clauses, None)
        self.assertEqual(len(Rule(many[1:], ()).clauses), 20000)
        for grounds in ([], None, "", 0, {}, True, ((),) * 61, deep(40)):
            self.bad("grounds", (), grounds)
            self.bad("grounds", (None,), grounds)
        full = ((A,) * 5000,) * 60
        self.assertEqual(Rule((), full).grounds, full)
        self.bad(("ground", 1), (), ((A,), (A,) * 5001))

    def test_clauses(self):
        for wrong in NO_FACTS:
            self.bad(0, (((), wrong),), ())
            self.bad(1, (((), A), ((A, wrong), B)), (None,))
            self.bad(0, (wrong, wrong), ())
        for clause in ([(), A], ((), A, A), ((),), (A, A), ([], A), ([A], A), (None, A), ((A,) * 5, A), A, None, 0, "ab"):
            self.bad(2, (((), A), ((A,), B), clause), (None,))

    def test_grounds(self):
        for wrong in NO_FACTS:
            self.bad(("ground", 0), (), ((wrong,),))
            self.bad(("ground", 1), (), ((A,), (A, wrong), None))
        for ground in ([], [A], None, 0, "", {}, "ab", A):
            self.bad(("ground", 1), (), ((), ground))

    def test_equality(self):
        rule = Rule((((A,), B),), ((A,),))
        self.assertTrue(rule == Rule((((A,), B),), ((A,),)))
        for other in (Rule((((A,), B),), ((B,),)), Rule((), ((A,),)), Rule((((A,), B),) * 2, ((A,),)), 1, None, (rule,)):
            self.assertFalse(rule == other)
            self.assertTrue(rule != other)


class AskingTest(RuleCase):

    def setUp(self):
        self.rule = Rule((((A, B), C), ((C,), D), ((D,), A), ((), E), ((B, E), D)), ((A,), (B, B)))

    def test_held(self):
        self.assertEqual(held(self.rule, ()), [E])
        self.assertEqual(held(self.rule, (0,)), [A, E])
        self.assertEqual(held(self.rule, (1,)), [A, B, C, D, E])
        self.assertEqual(held(self.rule, (0, 1)), [A, B, C, D, E])

    def test_rounds(self):
        told = {A: (0, 3, 0), B: (None, 0, 0), C: (None, 4, 1), D: (None, 2, 2), E: (1, 1, 1), ("z",): (None, None, None)}
        for other, answers in told.items():
            self.assertEqual(tuple([rounds(self.rule, lot, other) for lot in ((0,), (1,), (0, 1))]), answers, other)
        # A clause without a body tells at round 1, a ground at round 0.
        rule = Rule((((), A), ((A,), B), ((A, C), D)), ((A,), (C,)))
        self.assertEqual([rounds(rule, lot, B) for lot in ((), (0,))], [2, 1])
        self.assertEqual([rounds(rule, lot, D) for lot in ((1,), (0, 1), ())], [2, 1, None])

    def test_lots_and_facts_that_are_none(self):
        calls = (reasons, closed, rounds, needed)
        for lot in NO_LOTS:
            self.refuses(NoLot, held, self.rule, lot)
            for call in calls:
                self.refuses(NoLot, call, self.rule, lot, A)
                self.refuses(NoLot, call, self.rule, lot, None)
            for call in (is_reasons, is_closed):
                self.refuses(NoLot, call, self.rule, lot, None, ())
        for wrong in NO_FACTS:
            for call in calls:
                self.refuses(NoFact, call, self.rule, (0,), wrong)
            for call in (is_reasons, is_closed):
                self.refuses(NoFact, call, self.rule, (0,), wrong, ())
            for call in (enough_of, bars_of):
                self.refuses(NoFact, call, self.rule, wrong)
                self.refuses(NoFact, call, Rule((), ((),) * 17), wrong)

    def test_reasons_by_hand(self):
        self.assertEqual(reasons(self.rule, (0,), A), ((A, ("ground", 0)),))
        self.assertEqual(reasons(self.rule, (), E), ((E, ("clause", 3)),))
        self.assertIsNone(reasons(self.rule, (0,), B))
        self.assertIsNone(reasons(self.rule, (0, 1), ("z", 3)))

    def test_reasons_with_one_thing_otherwise(self):
        way = ((B, ("ground", 1)), (E, ("clause", 3)), (D, ("clause", 4)), (A, ("clause", 2)), (C, ("clause", 0)))

        def judged(thing, lot=(1,), other=C):
            answer = is_reasons(self.rule, lot, other, thing)
            self.assertIn(answer, (True, False))
            self.assertIs(answer.__class__, bool)
            return answer

        self.assertTrue(judged(way))
        self.assertTrue(judged(way, (0, 1)))
        self.assertTrue(judged(way[:-1], (1,), A))
        self.assertTrue(judged(((E, ("clause", 3)),) + way[:1] + way[2:]))
        self.assertFalse(judged(way, (0,)))
        self.assertFalse(judged(way, (1,), A))
        self.assertFalse(judged(()))
        self.assertFalse(judged(list(way)))
        for at in range(len(way)):
            self.assertFalse(judged(way[:at] + way[at + 1:]))
            self.assertFalse(judged(way[:at] + way[at:at + 1] + way[at:]))
        self.assertFalse(judged(way + (way[0],)))
        self.assertFalse(judged(way + (way[-1],)))
        self.assertFalse(judged(way[::-1]))
        for at, (other, origin) in enumerate(way):
            for wrong in (
                (other, ("ground", 0)), (other, ("clause", 1)), (other, ("clause", 5)), (other, ("clause", -1)),
                (other, ("ground", 2)), (other, ("", 0)), (other, ("clause",)), (other, list(origin)), (other, origin + (0,)),
                (other, None), (other,), (other, origin, origin), [other, origin], None, 0, "", other, (("z",), origin),
                (list(other), origin), (None, origin), (other, (None, 0)), (other, ("ground", None)),
            ):
                self.assertFalse(judged(way[:at] + (wrong,) + way[at + 1:]), wrong)
        self.assertFalse(judged(((A, ("clause", 3)),), (0,), A))
        self.assertFalse(judged(((E, ("ground", 0)),), (0,), E))
        # Flags are no numbers.
        self.assertTrue(judged(((A, ("ground", 0)),), (0,), A))
        self.assertFalse(judged(((A, ("ground", False)),), (0,), A))
        self.assertFalse(judged(((B, ("ground", True)),), (1,), B))
        rule = Rule((((), A), ((), ("a", 1))), ())
        self.assertTrue(is_reasons(rule, (), ("a", 1), ((("a", 1), ("clause", 1)),)))
        self.assertFalse(is_reasons(rule, (), ("a", 1), ((("a", 1), ("clause", True)),)))
        self.assertFalse(is_reasons(rule, (), ("a", 1), ((("a", True), ("clause", 1)),)))
        # Reasons may tell more than is needed.
        self.assertTrue(judged(way[:2], (1,), E))
        for thing in NO_FACTS + NO_LOTS:
            self.assertFalse(judged(thing))

    def test_closed_by_hand(self):
        self.assertEqual(closed(self.rule, (0,), B), (A, E))
        self.assertIsNone(closed(self.rule, (1,), C))
        self.assertEqual(closed(self.rule, (), A), (E,))
        for thing, answer in (
            ((A, E), True), ((A, D, E), True), ((A, C, D, E), True), ((A,), False), ((E,), False), ((A, C, E), False),
            ((A, B, C, D, E), False), ((E, A), False), ((A, A, E), False), ([A, E], False), ((A, E, ("z", 1)), True),
            ((A, E, ("z", True)), False), ((A, E, None), False), ((), False), (None, False), ((A, ("b", 1), E), True),
        ):
            self.assertIs(is_closed(self.rule, (0,), B, thing), answer, thing)
        self.assertIs(is_closed(self.rule, (), A, (E,)), True)
        self.assertIs(is_closed(self.rule, (), A, (D, E)), False)
        for thing in NO_FACTS + NO_LOTS:
            self.assertIs(is_closed(self.rule, (0,), B, thing), False)

    def test_needed(self):
        self.assertEqual(needed(self.rule, (1,), C), (0, 2, 3, 4))
        self.assertEqual(needed(self.rule, (0, 1), C), (0,))
        self.assertEqual(needed(self.rule, (0, 1), D), ())
        self.assertEqual(needed(self.rule, (0,), A), ())
        self.assertEqual(needed(self.rule, (0,), C), ())
        rule = Rule((((), A), ((), A), ((A,), B), ((B,), A)), ())
        self.assertEqual((needed(rule, (), A), needed(rule, (), B)), ((), (2,)))

    def test_lots_by_hand(self):
        rule = Rule((((A, B), E), ((C,), E), ((), D)), ((A,), (B,), (C,), (A, B), ()))
        self.assertEqual(enough_of(rule, E), [(2,), (3,), (0, 1)])
        self.assertEqual(bars_of(rule, E), [(0, 2, 3), (1, 2, 3)])
        self.assertEqual((enough_of(rule, D), bars_of(rule, D)), ([()], []))
        self.assertEqual((enough_of(rule, ("z",)), bars_of(rule, ("z",))), ([], [()]))

    def test_sixteen_grounds_and_seventeen(self):
        grounds = tuple([(fact(at),) for at in range(16)])
        clauses = [((), ("g", 0))]
        clauses += [((("g", at), fact(at)), ("g", at + 1)) for at in range(16)]
        rule = Rule(tuple(clauses), grounds)
        self.assertEqual(enough_of(rule, ("g", 16)), [tuple(range(16))])
        self.assertEqual(bars_of(rule, ("g", 16)), [(at,) for at in range(16)])
        one = Rule(((( fact(3),), A), ((fact(9),), A)), grounds)
        self.assertEqual((enough_of(one, A), bars_of(one, A)), ([(3,), (9,)], [(3, 9)]))
        for call in (enough_of, bars_of):
            self.assertEqual(self.refuses(TooMany, call, Rule((), ((),) * 17), A).most, 16)


class DrawnTest(RuleCase):

    def test_beside_plain_trials(self):
        for seed in range(300):
            rule, count = drawn_rule(random.Random(seed))
            clauses, grounds = rule.clauses, rule.grounds
            rows = all_lots(len(grounds))
            known = {lot: plainly_held(rule, lot) for lot in rows}
            for lot in rows:
                self.assertEqual(held(rule, lot), sorted(known[lot]))
            for number in range(count):
                other = fact(number)
                others = {lot: tuple([at for at in range(len(grounds)) if at not in lot]) for lot in rows}
                self.assertEqual(enough_of(rule, other), least(rows, lambda lot: other in known[lot]))
                self.assertEqual(bars_of(rule, other), least(rows, lambda lot: other not in known[others[lot]]))
            self.assertEqual((rule.clauses, rule.grounds), (clauses, grounds))

    def test_just_one_is_there(self):
        for seed in range(300, 500):
            rule, count = drawn_rule(random.Random(seed))
            for lot in all_lots(len(rule.grounds)):
                known = plainly_held(rule, lot)
                for number in range(count):
                    self.one_is_there(rule, lot, fact(number), known)

    def one_is_there(self, rule, lot, other, known):
        way, wall = reasons(rule, lot, other), closed(rule, lot, other)
        if other not in known:
            self.assertIsNone(way)
            self.assertEqual(wall, tuple(sorted(known)))
            self.assertTrue(is_closed(rule, lot, other, wall))
            self.assertFalse(is_closed(rule, lot, other, wall + (other,)))
            self.assertEqual((rounds(rule, lot, other), needed(rule, lot, other)), (None, ()))
            return
        self.assertIsNone(wall)
        self.assertTrue(is_reasons(rule, lot, other, way))
        self.assertFalse(is_closed(rule, lot, other, tuple(sorted(known))))
        self.assertEqual(needed(rule, lot, other), tuple([
            at for at in range(len(rule.clauses)) if other not in plainly_held(rule, lot, at)
        ]))
        told = rounds(rule, lot, other)
        if other in [one for at in lot for one in rule.grounds[at]]:
            self.assertEqual(told, 0)
            return
        turns = []
        for body, head in rule.clauses:
            if head == other and set(body) <= known:
                turns.append(1 + max([rounds(rule, lot, one) for one in body], default=0))
        self.assertEqual(told, min(turns))

    def test_a_chain_of_clauses(self):
        for turn in (1, -1):
            clauses = tuple([((fact(at),), fact(at + 1)) for at in range(2000)][::turn])
            rule = Rule(clauses, ((fact(0),), (fact(1000),)))
            end = fact(2000)
            self.assertEqual(rounds(rule, (0,), end), 2000)
            self.assertEqual(rounds(rule, (0, 1), end), 1000)
            way = reasons(rule, (0,), end)
            self.assertEqual(len(way), 2001)
            self.assertTrue(is_reasons(rule, (0,), end, way))
            self.assertTrue(is_closed(rule, (), end, closed(rule, (), end)))
            self.assertEqual(needed(rule, (0,), end), tuple(range(2000)))
            self.assertEqual(len(needed(rule, (0, 1), end)), 1000)
            self.assertEqual(enough_of(rule, end), [(0,), (1,)])
            self.assertEqual(bars_of(rule, end), [(0, 1)])


if __name__ == "__main__":
    unittest.main()
