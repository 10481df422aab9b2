"""Point 27: a ledger."""

import copy
import itertools
import random
import unittest
from fractions import Fraction

from actuarium.errors import (
    BadAge, BadLives, BadName, BadPayments, BadPolicy, BadPremium, BadRate, BadTime, BadWanted, NoName, NothingToUndo)
from actuarium.ledger import Ledger
from actuarium.policies import worth
from tests.support import (
    ANYTHING, Checks, fraction, grown, is_int, is_lives, is_payments, is_premium, is_rate, is_time, people, ratio, ratios,
    replaced, short)
from tests.test_policies import flows as flows_of_one
from tests.test_policies import reserve

LIVES = (10, 8, 8, 5, 1, 0)
ENTRY = (1, (1, 2), (3, 4, 5), (1, 2), 2)
OTHER = (3, (5,), (), (-1, 3), 1)
LONG = (0, (1,) * 40, (-10**6,) * 40, (10**6, 1), 40)
WRONG_NAMES = ["", "A", "aB", "a1", "1", "a b", " a", "a ", "a\n", "-", "_", "`", "{", "a{", "\u00e9", "\u00df", "abcdefghi", "a" * 100,
               b"a", ("a",), ["a"], {"a": 1}, 0, 1, True, None, (), []]
PARTS = [
    (BadAge, is_time(0, 4), 5), (BadPayments, is_payments, (True,)), (BadPayments, is_payments, [1]),
    (BadPremium, is_premium, (2, 4)), (BadTime, is_time(0, 40), 41),
]


def is_name(value):
    return type(value) is str and 1 <= len(value) <= 8 and all("a" <= letter <= "z" for letter in value)


def entry_fault(value, lives=LIVES):
    """The error that belongs to a value which is no entry, None for an entry."""
    if type(value) is not tuple or len(value) != 5:
        return BadPolicy
    if not is_int(value[0], 0, len(lives) - 2):
        return BadAge
    return next((error for (error, allowed, _), part in zip(PARTS[1:], value[1:]) if not allowed(part)), None)


def policy_of(lives, rate, entry):
    return (lives, entry[0], rate, *entry[1:])


def counted_flows(lives, rate, entries):
    """What all who live are paid, life by life, time by time, divided by their number."""
    found = {}
    for entry in entries:
        policy = policy_of(lives, rate, entry)
        living = people(lives, entry[0])
        for time in range(len(lives) - entry[0]):
            found.setdefault(time, Fraction(0))
        for left in living:
            for time, amount in flows_of_one(policy, left):
                found[time] += amount / len(living)
    return ratios(found[time] for time in range(len(found)))


class Slow:
    """A ledger as a plain dict and a list of its earlier states."""

    def __init__(self, lives, rate):
        self.lives, self.rate, self.now, self.states = lives, rate, {}, []

    def changed(self, now):
        self.states.append(self.now)
        self.now = now

    def put(self, name, entry):
        if not is_name(name):
            raise BadName
        if entry_fault(entry, self.lives):
            raise entry_fault(entry, self.lives)
        self.changed({**self.now, name: entry})

    def get(self, name):
        if not is_name(name):
            raise BadName
        if name not in self.now:
            raise NoName
        return self.now[name]

    def drop(self, name):
        entry = self.get(name)
        self.changed({other: self.now[other] for other in self.now if other != name})
        return entry

    def names(self):
        return tuple(sorted(self.now))

    def undo(self):
        if not self.states:
            raise NothingToUndo
        self.now = self.states.pop()

    def worth_of_all(self):
        return ratio(sum(reserve(policy_of(self.lives, self.rate, entry), 0) for entry in self.now.values()))

    def flows(self):
        return counted_flows(self.lives, self.rate, self.now.values())

    def age_on(self):
        older = {}
        for name, (age, alive, dead, premium, years) in self.now.items():
            if self.lives[age + 1] > 0:
                older[name] = (age + 1, alive[1:], dead[1:], premium, years - 1 if years else 0)
        self.changed(older)

    def least_change(self, wanted):
        if type(wanted) is not dict:
            raise BadWanted
        if any(type(name) is not str for name in wanted):
            raise BadName
        found = []
        for name in sorted(wanted):
            entry = self.get(name)
            if not is_premium(wanted[name]):
                raise BadPremium
            before, after = [reserve(policy_of(self.lives, self.rate, (*entry[:3], premium, entry[4])), 0)
                             for premium in (entry[3], wanted[name])]
            if before != after:
                found.append((name, ratio(after)))
        return tuple(found)


def told(ledger, word, arguments):
    """What a call returns, or the error that it raises."""
    try:
        return getattr(ledger, word)(*arguments)
    except ValueError as error:
        return type(error).__name__


def drawn_entry(chance, lives):
    def payments():
        return tuple(chance.randint(-9, 30) for _ in range(chance.choice((0, 1, 2, 8))))

    premium = ratio(Fraction(chance.randint(-5, 20), chance.choice((1, 2, 7))))
    return (chance.randint(0, len(lives) - 2), payments(), payments(), premium, chance.choice((0, 1, 2, 40)))


def drawn_call(chance, lives, names):
    word = chance.choice(["put"] * 6 + ["drop"] * 2 + ["undo"] * 4 + ["least_change"] * 2
                         + ["get", "names", "worth_of_all", "flows", "age_on"])
    name = chance.choice([*names, *names, *names, *names, "zz", "", "Q", 3])
    if word == "put":
        entry = drawn_entry(chance, lives)
        if chance.random() < 0.2:
            entry = replaced(entry, (chance.randrange(5),), chance.choice((None, -1, True, (0, 2), 41, [])))
        if chance.random() < 0.1:
            entry = chance.choice((entry[:4], list(entry), (*entry, 0), None))
        return word, (name, entry)
    if word in ("drop", "get"):
        return word, (name,)
    if word == "least_change":
        asked = chance.sample(names, chance.randint(0, 3)) + [name] * chance.choice((0, 0, 1))
        return word, ({each: chance.choice(((1, 2), (-3, 7), (0, 1), (5, 1), (2, 4))) for each in asked},)
    return word, ()


def snapshot(ledger):
    names = ledger.names()
    return repr((names, [ledger.get(name) for name in names], ledger.worth_of_all(), ledger.flows()))


def filled():
    ledger = Ledger(LIVES, (1, 10))
    ledger.put("b", ENTRY)
    ledger.put("abcdefgh", OTHER)
    return ledger


class LedgerTest(Checks, unittest.TestCase):
    def test_examples(self):
        ledger = Ledger((2, 1, 0), (0, 1))
        first = ledger.put('a', (0, (), (100, 100), (0, 1), 0))
        found = [first, ledger.worth_of_all(), ledger.flows(), ledger.age_on(), ledger.get('a'), ledger.undo(), ledger.names()]
        self.same(found, [None, (100, 1), ((0, 1), (50, 1), (50, 1)), None, (1, (), (100,), (0, 1), 0), None, ('a',)])

    def test_long_rows_of_calls(self):
        chance = random.Random(271)
        seen = {}
        for lives in (LIVES, (1, 0), (4, 2, 1, 0), (9, 9, 9, 7, 7, 2, 1, 0)):
            for rate in ((0, 1), (1, 10), (-1, 4)):
                ledger, slow = Ledger(lives, rate), Slow(lives, rate)
                for _ in range(120):
                    word, arguments = drawn_call(chance, lives, ["a", "b", "ab", "ba", "zzzzzzzz"])
                    before = copy.deepcopy(arguments)
                    found, wanted = told(ledger, word, arguments), told(slow, word, arguments)
                    self.same(found, wanted)
                    self.same(arguments, before)
                    self.same(ledger.names(), slow.names())
                    self.same([ledger.get(name) for name in slow.names()], [slow.get(name) for name in slow.names()])
                    kind = (word, wanted if isinstance(wanted, str) else "told")
                    seen[kind] = seen.get(kind, 0) + 1
                self.same([ledger.worth_of_all(), ledger.flows()], [slow.worth_of_all(), slow.flows()])
                while slow.states:
                    self.same(ledger.undo(), slow.undo())
                    self.same([ledger.get(name) for name in ledger.names()], [slow.get(name) for name in slow.names()])
                self.assertEqual(ledger.names(), ())
                self.is_told(NothingToUndo, ledger.undo)
        for kind in [("put", "told"), ("put", "BadName"), ("put", "BadPolicy"), ("put", "BadAge"), ("put", "BadPayments"),
                     ("put", "BadPremium"), ("put", "BadTime"), ("drop", "told"), ("drop", "NoName"), ("drop", "BadName"),
                     ("get", "told"), ("get", "NoName"), ("get", "BadName"), ("undo", "told"), ("age_on", "told"),
                     ("least_change", "told"), ("least_change", "BadName"), ("least_change", "NoName"),
                     ("least_change", "BadPremium"), ("names", "told"), ("flows", "told"), ("worth_of_all", "told")]:
            self.assertIn(kind, seen)

    def drawn_ledgers(self, seed):
        chance = random.Random(seed)
        for lives in ((1, 0), (4, 2, 1, 0), LIVES, (200,) + tuple(range(40, 2, -1)) + (0,)):
            for rate in ((0, 1), (1, 10), (-1, 4), (1000, 1)):
                ledger = Ledger(lives, rate)
                entries = [drawn_entry(chance, lives) for _ in range(chance.choice((1, 2, 5)))]
                for at, entry in enumerate(entries):
                    self.same(ledger.put("abcde"[at], entry), None)
                yield ledger, lives, rate, entries

    def test_flows_are_worth_what_all_are_worth(self):
        for ledger, lives, rate, entries in self.drawn_ledgers(272):
            flows = ledger.flows()
            self.same(flows, counted_flows(lives, rate, entries))
            self.same(ledger.worth_of_all(), ratio(sum(grown(fraction(flow), rate, -time) for time, flow in enumerate(flows))))
            self.same(ledger.worth_of_all(), ratio(sum(fraction(worth(policy_of(lives, rate, entry))) for entry in entries)))

    def test_by_hand(self):
        # Two of four live a year later, one after that. Alive 8 at time 1, dead 4 in the first year and 12 in the second
        # one; the premium 3 is paid at the times 0 and 1: -3, then (8 - 3) / 2 + 4 / 2, then 12 / 4.
        ledger = Ledger((4, 2, 1, 0), (1, 1))
        ledger.put("one", (0, (0, 8), (4, 12), (3, 1), 2))
        self.same(ledger.flows(), ((-3, 1), (9, 2), (3, 1), (0, 1)))
        self.same(ledger.worth_of_all(), (0, 1))
        # One of those who are 2 pays 1 at once.
        ledger.put("two", (2, (), (6,), (1, 1), 40))
        self.same(ledger.flows(), ((-4, 1), (21, 2), (3, 1), (0, 1)))
        self.same(ledger.worth_of_all(), (2, 1))
        self.same(ledger.least_change({"two": (2, 1), "one": (3, 1)}), (("two", (1, 1)),))
        self.same(ledger.least_change({"two": (1, 2), "one": (0, 1)}), (("one", (15, 4)), ("two", (5, 2))))
        ledger.age_on()
        self.same([ledger.names(), ledger.get("one")], [("one",), (1, (8,), (12,), (3, 1), 1)])
        self.same(ledger.flows(), ((5, 1), (6, 1), (0, 1)))

    def test_names(self):
        ledger = Ledger(LIVES, (0, 1))
        for name in ("a", "z", "abcdefgh", "zzzzzzzz", "m"):
            self.same(ledger.put(name, ENTRY), None)
        self.same(ledger.names(), ("a", "abcdefgh", "m", "z", "zzzzzzzz"))
        self.same(ledger.drop("m"), ENTRY)
        self.same(ledger.names(), ("a", "abcdefgh", "z", "zzzzzzzz"))

    def test_put_drop_and_undo(self):
        ledger = Ledger(LIVES, (1, 10))
        self.is_told(NothingToUndo, ledger.undo)
        ledger.put("a", ENTRY)
        ledger.put("a", OTHER)
        self.same(ledger.get("a"), OTHER)
        self.same(ledger.undo(), None)
        self.same(ledger.get("a"), ENTRY)
        self.same(ledger.drop("a"), ENTRY)
        self.is_told(NoName, ledger.get, "a")
        self.is_told(NoName, ledger.drop, "a")
        self.is_told(BadPolicy, ledger.put, "a", None)
        # The refused calls were no changes: undo takes back the drop.
        self.same(ledger.undo(), None)
        self.same(ledger.get("a"), ENTRY)
        # The same entry put again is a change that can be taken back.
        ledger.put("a", ENTRY)
        ledger.undo()
        self.same(ledger.names(), ("a",))
        ledger.undo()
        self.same(ledger.names(), ())
        self.is_told(NothingToUndo, ledger.undo)
        self.is_told(NothingToUndo, ledger.undo)
        ledger.put("b", OTHER)
        ledger.undo()
        self.same(ledger.names(), ())

    def test_two_ledgers_share_nothing(self):
        one, other = Ledger(LIVES, (1, 10)), Ledger(LIVES, (1, 10))
        one.put("a", ENTRY)
        self.same([one.names(), other.names()], [("a",), ()])
        self.is_told(NothingToUndo, other.undo)

    def test_age_on(self):
        ledger = Ledger(LIVES, (1, 10))
        ledger.put("last", (4, (1,), (2,), (1, 1), 1))
        ledger.put("first", (0, (1, 2), (), (1, 1), 0))
        ledger.put("none", (3, (), (), (0, 1), 1))
        self.same(ledger.age_on(), None)
        self.same(ledger.names(), ("first", "none"))
        self.same([ledger.get("first"), ledger.get("none")], [(1, (2,), (), (1, 1), 0), (4, (), (), (0, 1), 0)])
        ledger.age_on()
        self.same([ledger.names(), ledger.get("first")], [("first",), (2, (), (), (1, 1), 0)])
        ledger.undo()
        self.same(ledger.names(), ("first", "none"))
        ledger.undo()
        self.same([ledger.names(), ledger.get("last")], [("first", "last", "none"), (4, (1,), (2,), (1, 1), 1)])
        for _ in range(5):
            ledger.age_on()
        self.same([ledger.names(), ledger.worth_of_all(), ledger.flows()], [(), (0, 1), ()])
        for _ in range(5):
            ledger.undo()
        self.same(ledger.names(), ("first", "last", "none"))

    def test_an_empty_ledger(self):
        ledger = Ledger((1, 0), (0, 1))
        self.same([ledger.names(), ledger.worth_of_all(), ledger.flows(), ledger.least_change({})], [(), (0, 1), (), ()])
        self.same(ledger.age_on(), None)
        self.same(ledger.undo(), None)
        self.is_told(NothingToUndo, ledger.undo)

    def test_least_change(self):
        ledger = filled()
        before = snapshot(ledger)
        self.same(ledger.least_change({}), ())
        self.same(ledger.least_change({"b": (1, 2), "abcdefgh": (-1, 3)}), ())
        found = ledger.least_change({"b": (1, 3), "abcdefgh": (0, 1)})
        wanted = [worth(policy_of(LIVES, (1, 10), (*OTHER[:3], (0, 1), 1))), worth(policy_of(LIVES, (1, 10), (*ENTRY[:3], (1, 3), 2)))]
        self.same(found, (("abcdefgh", wanted[0]), ("b", wanted[1])))
        self.same(snapshot(ledger), before)
        # Premiums of an entry that pays none change nothing.
        ledger.put("free", (*ENTRY[:4], 0))
        self.same(ledger.least_change({"free": (10**6, 1), "b": (1, 3)}), (("b", wanted[1]),))
        self.same(ledger.least_change({"free": (-10**6, 1)}), ())

    def test_limits(self):
        ledger = Ledger(LIVES, (1000, 1))
        ledger.put("a", LONG)
        self.same(ledger.worth_of_all(), worth(policy_of(LIVES, (1000, 1), LONG)))
        self.assertEqual(len(ledger.flows()), 6)
        self.same(ledger.get("a"), LONG)


class ErrorsTest(Checks, unittest.TestCase):
    def refused(self, ledger, error, word, *arguments):
        """The call raises the error, changes nothing, and leaves no change to take back."""
        before = snapshot(ledger)
        with self.subTest(word=word, arguments=short(arguments)):
            self.is_told(error, getattr(ledger, word), *arguments)
        self.same(snapshot(ledger), before)

    def test_wrong_tables_and_rates(self):
        self.refuses(Ledger, [LIVES, (0, 1)], 0, BadLives, is_lives)
        self.refuses(Ledger, [LIVES, (0, 1)], 1, BadRate, is_rate)
        self.first_error_wins(Ledger, [LIVES, (0, 1)], [((2, 1), BadLives), ((-1, 1), BadRate)])

    def test_wrong_names(self):
        ledger = filled()
        for name in [value for value in ANYTHING if not is_name(value)] + WRONG_NAMES:
            self.refused(ledger, BadName, "put", name, ENTRY)
            self.refused(ledger, BadName, "put", name, None)
            self.refused(ledger, BadName, "drop", name)
            self.refused(ledger, BadName, "get", name)
        for name in ("a", "c", "bb", "abcdefg", "zzzzzzzz"):
            self.refused(ledger, NoName, "drop", name)
            self.refused(ledger, NoName, "get", name)
        ledger.undo()
        self.same(ledger.names(), ("b",))

    def test_wrong_entries(self):
        ledger = filled()
        for value in [*ANYTHING, list(ENTRY), ENTRY[:4], (*ENTRY, 0), (ENTRY,), dict(enumerate(ENTRY)), policy_of(LIVES, (0, 1), ENTRY)]:
            self.assertIs(entry_fault(value), BadPolicy)
            self.refused(ledger, BadPolicy, "put", "a", value)
        for at, (error, allowed, bad) in enumerate(PARTS):
            for value in ANYTHING:
                if not allowed(value):
                    self.refused(ledger, error, "put", "b", replaced(ENTRY, (at,), value))
            for second in range(at, 5):
                entry = replaced(replaced(ENTRY, (second,), PARTS[second][2]), (at,), bad)
                self.refused(ledger, error, "put", "a", entry)
                self.refused(ledger, BadName, "put", "A", entry)
            self.refused(ledger, error, "put", "a", (*ENTRY[:at], *[part[2] for part in PARTS[at:]]))
        ledger.undo()
        self.same([ledger.names(), ledger.get("b")], [("b",), ENTRY])

    def test_wrong_wanted(self):
        ledger = filled()
        for value in ANYTHING:
            if type(value) is not dict:
                self.refused(ledger, BadWanted, "least_change", value)
        for value in ((("b", (1, 2)),), [("b", (1, 2))], "b", ["b"]):
            self.refused(ledger, BadWanted, "least_change", value)
        for value in ANYTHING:
            if not is_premium(value):
                self.refused(ledger, BadPremium, "least_change", {"b": value})
        for key in (0, 1, True, None, (), ("b",), (1, 2), b"b"):
            self.refused(ledger, BadName, "least_change", {key: (1, 2)})
            self.refused(ledger, BadName, "least_change", {"b": None, key: (1, 2)})
            self.refused(ledger, BadName, "least_change", {"a": (1, 2), key: (1, 2)})
        for name in WRONG_NAMES:
            if type(name) is str:
                self.refused(ledger, BadName, "least_change", {name: (1, 2)})
        self.refused(ledger, NoName, "least_change", {"c": (1, 2)})
        ledger.undo()
        self.same(ledger.names(), ("b",))

    def test_least_change_name_by_name(self):
        ledger = Ledger(LIVES, (0, 1))
        for name in "bdf":
            ledger.put(name, ENTRY)
        faults = {"a": (NoName, (1, 2)), "b": (BadPremium, (2, 4)), "c": (NoName, None), "d": (BadPremium, None), "e1": (BadName, (1, 2)),
                  "f": (BadPremium, True), "{": (BadName, None), "A": (BadName, (1, 2)), "": (BadName, [])}
        for many in range(1, 4):
            for names in itertools.permutations(faults, many):
                wanted = {name: faults[name][1] for name in names}
                self.refused(ledger, faults[min(names)][0], "least_change", wanted)
        self.refused(ledger, BadName, "least_change", {"a": None, "b": (1, 2), 5: (1, 2)})
        self.refused(ledger, BadPremium, "least_change", {"f": (1, 2), "b": None})

    def test_arguments_stay(self):
        ledger = filled()
        wanted = {"b": (1, 3), "abcdefgh": (0, 1)}
        self.keeps_arguments(ledger.least_change, wanted)
        self.assertEqual(wanted, {"b": (1, 3), "abcdefgh": (0, 1)})
        self.assertEqual(list(wanted), ["b", "abcdefgh"])
        self.assertTrue(all(is_int(part) for flow in ledger.flows() for part in flow))


if __name__ == "__main__":
    unittest.main()
