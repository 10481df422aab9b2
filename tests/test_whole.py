"""The whole program: every example of the document, equal answers to equal arguments, and no errors but its own."""

import copy
import importlib
import inspect
import pathlib
import random
import unittest

from actuarium import errors
from actuarium.ledger import Ledger
from tests.support import ANYTHING, Checks, is_ratio, places, replaced, short
from tests.test_language import INTERFACE, METHODS_OF_LEDGER

EXAMPLES = pathlib.Path(__file__).resolve().parent / "examples.txt"
LIVES = (10, 8, 8, 5, 1, 0)
POLICY = (LIVES, 1, (1, 10), (1, 2, 0, 5), (30, 20, 10), (7, 3), 3)
PAIR = ((LIVES, 0), ((4, 2, 1, 0), 1), ((2, 1, 0), 0))
MODEL = ((((1, 1), (0, 1)), ((1, 3), (0, 2))), (((1, 2), (3, -4), (5, 6)), (((0, 8), (9, 1)), ((2, 0), (7, -5)))))
OFFERS = ((3, 3), (0, -2), (4, 7))
TRIANGLE = ((10, 5, 1), (8, 6), (9,))
MARKET = ((90, (100, 0)), (170, (100, 100)))
PRIOR = ((1, (1, 1)), (2, (3, 1)))
OUTCOMES = ((1, (0, 4)), (1, (2, 0)), (3, (1, 1)))
FACTS = (((0, 1, 2), (1, 1)),)
SCALE = (((0, 1), (0, 1)), (10, 20))
CALLS = {
    "value_at": ((5, -3, 2), (1, 10), 4),
    "shifted": ((5, -3), 2),
    "level": (4,),
    "lives_on": (LIVES, 1, 2),
    "dies_in": (LIVES, 1, 2),
    "ages_left": (LIVES, 1),
    "from_rates": (((1, 2), (1, 3), (1, 1)),),
    "write_lives": (LIVES,),
    "read_lives": ("5, 2,0",),
    "yields_above": ((-100, 230, -132), (1, 10)),
    "yield_count": ((-100, 230, -132),),
    "yield_floor": ((-100, 0, 121), 3),
    "compare_yields": ((-100, 120), (-50, 0, 80)),
    "is_plain": ((-100, 230),),
    "loan_rows": (100, (1, 10), 3),
    "left_of_loan": (100, (1, 10), 3, 1),
    "mean_time": ((0, 1, 3), (1, 10)),
    "is_shield": ((1, 0, 1), (0, 2), (0, 1)),
    "shield_paper": ((1, 0, 1), (0, 2), (0, 1)),
    "shows_split": ((1, 0, 1), (0, 2), (0, 1), ((1, 0, (1, 1)), (1, 2, (1, 1)))),
    "worth": (POLICY,),
    "fair_premium": (POLICY,),
    "reserves": (POLICY,),
    "fund": (POLICY,),
    "split_premiums": (POLICY,),
    "paid_up": (POLICY, 1),
    "worth_with_lapses": (POLICY, ((1, 2), (1, 3)), ((5, 7),)),
    "profits": (POLICY, (9, 7, 3, 1, 0), (1, 20)),
    "critical": (POLICY, (9, 7, 3, 2, 1, 0), (1, 20)),
    "losses": (POLICY,),
    "variance": (POLICY,),
    "chance_of_loss": (POLICY,),
    "safe_premium": (POLICY, (1, 4)),
    "year_variances": (POLICY,),
    "state_values": (MODEL, (1, 10)),
    "chances_at": (MODEL, 0),
    "spread_of": (MODEL, (1, 10), 0),
    "first_chance": (MODEL, 0, 1),
    "alive_counts": (PAIR, 1),
    "joint_sums": (PAIR, 1),
    "value_of_counts": (PAIR, (1, 10), (5, 3, 1, 0)),
    "dies_first": (PAIR, 1),
    "left_alone": (PAIR, (1, 10), 1),
    "mean_claim": ((3, 1, 2),),
    "summed": ((3, 1, 2), 2),
    "random_sum": ((1, 2, 1), (3, 1, 2)),
    "binomial_sum": (2, (1, 3), (3, 1), 4),
    "waiting_sum": (2, (1, 3), (3, 1), 4),
    "layer": ((3, 1, 2), 0, 1),
    "is_smaller": ((2, 1), (1, 1, 1)),
    "smaller_paper": ((2, 1), (1, 1, 1)),
    "shows_ladder": ((1, 1), (0, 1), ((0, 1, (1, 2)), (1, 1, (1, 2)))),
    "is_safer": ((1, 0, 1), (0, 1)),
    "safer_witness": ((1, 0, 1), (0, 1)),
    "shortfall": ((3, 1, 2), (1, 2)),
    "worst_view": ((1, 1), (1, 2)),
    "shows_view": ((1, 1), (1, 2), ((0, 1), (2, 1))),
    "kept": ((3, 1, 2), (0, 1, 1)),
    "cover_above": ((3, 1, 2), 1),
    "best_edge": ((3, 1, 2), (0, 1, 1)),
    "ruin_within": ((3, 0, 1), 1, 4),
    "ruin_ever": ((3, 0, 1), 1),
    "always_behind": ((3, 0, 1), 3),
    "deficits": ((3, 0, 1),),
    "years_to_ruin": ((3, 0, 1), 2, 1),
    "gifts_value": ((3, 0, 1), 2, 1, (1, 10)),
    "best_cap": ((3, 0, 1), (1, 10)),
    "factors": (TRIANGLE,),
    "ultimates": (TRIANGLE,),
    "spreads": (TRIANGLE,),
    "marginal_fit": (TRIANGLE,),
    "shows_fit": (((100, 50), (200,)), (((150, 1), (300, 1)), ((2, 3), (1, 3)))),
    "worths": (MARKET,),
    "free_lunch": (MARKET,),
    "shows_worths": (MARKET, ((9, 10), (4, 5))),
    "shows_lunch": (((1, (1,)), (2, (1,))), (1, -1)),
    "cheapest_cover": (MARKET, (0, 10)),
    "dearest_worths": (MARKET, (1, 1)),
    "kinds_after": (PRIOR, (1, 0)),
    "expected_after": (PRIOR, (1, 0)),
    "fair_weight": (PRIOR, 3),
    "linear_after": (PRIOR, (1, 0)),
    "product_limit": (((0, 2, 1), (0, 3, 0), (1, 3, 1)),),
    "smoothed": (((0, 1), (1, 1), (1, 2)), (1, 2, 3), 2, 5),
    "best_values": (MODEL, (1, 10), OFFERS),
    "stop_times": (MODEL, (1, 10), OFFERS),
    "corrections": (MODEL, (1, 10), OFFERS),
    "shows_corrections": (((((1,),),), (((1,), (2,)), (((3,),),))), (0, 1), ((0,), (0,)), ((((0, 1),),),)),
    "pool_shortfall": (OUTCOMES, (0, 1), (1, 2)),
    "shares": (OUTCOMES, (1, 2)),
    "shows_shares": (OUTCOMES, (0, 1), ((1, 1), (7, 5))),
    "worst_chances": (2, FACTS, (0, 0, 1)),
    "bound_paper": (2, FACTS, (0, 0, 1)),
    "shows_bound": (2, FACTS, (0, 0, 1), ((0, 1), (1, 2))),
    "steady_classes": (SCALE, (3, 1)),
    "fair_levels": (SCALE, PRIOR),
    "mean_level": (SCALE, (3, 1)),
    "hunger": (SCALE, (1, 0, 1), 3, (1, 10)),
    "value_on_curve": ((0, 2, 4), ((1, 1), (0, 1))),
    "par_rates": (((1, 1), (0, 1)),),
    "from_pars": (((1, 1), (1, 2)),),
}
METHODS = {"put": ("c", (0, (), (5,), (0, 1), 0)), "drop": ("a",), "get": ("a",), "names": (), "undo": (), "age_on": (),
           "worth_of_all": (), "flows": (), "least_change": ({"a": (1, 2), "b": (1, 3)},)}
ODD = [0, 1, -1, 41, 10**6 + 1, 10**5000, "", "a", "5, 0", True, False, None, (), [], {}, (0, 1), (1, 2), (2, 4), (1, 0), (-1, 1),
       (1,), (1, True), (0, 0), (1, "2"), (2, 1, 0), ((0, 1),), [(0, 1)], {"a": 1}, {1: [0, {"b": None}]}, (1,) * 41,
       ((1, 2), (1, 1)), (1, (2, (3, [4, {5: 6}]))), ((1, (1,)),), (((0, 1),), ((1,),))]


def function_of(name):
    module = next(stem for stem, calls in INTERFACE.items() if any(call.startswith(f"{name}(") for call in calls))
    return getattr(importlib.import_module(f"actuarium.{module}"), name)


def a_ledger():
    ledger = Ledger(LIVES, (1, 10))
    ledger.put("a", POLICY[1:2] + POLICY[3:])
    ledger.put("b", (0, (1,), (), (1, 1), 2))
    return ledger


def fresh(value):
    """An equal value that shares no tuple with the one before."""
    if type(value) in (tuple, list):
        return type(value)([fresh(entry) for entry in value])
    if type(value) is dict:
        return {key: fresh(entry) for key, entry in value.items()}
    return value


def pairs_within(value):
    """Go through all pairs of two integers in an answer."""
    if type(value) is tuple:
        if len(value) == 2 and all(type(entry) is int for entry in value):
            yield value
        for entry in value:
            yield from pairs_within(entry)


def kinds_within(value):
    if type(value) is tuple:
        for entry in value:
            yield from kinds_within(entry)
    else:
        yield type(value)


class ExamplesTest(unittest.TestCase):
    def test_every_example(self):
        space, answers = {}, 0
        lines = EXAMPLES.read_text(encoding="utf-8").splitlines()
        for line, following in zip(lines, [*lines[1:], ""]):
            if not line.startswith(">>> "):
                continue
            code = line[4:]
            if following.startswith("raises "):
                name, fields = following[7:].rstrip(")").split("(")
                with self.assertRaises(getattr(errors, name)) as caught:
                    eval(code, space)
                self.assertEqual([repr(field) for field in vars(caught.exception).values()], [fields])
                answers += 1
            elif following and not following.startswith(">>> "):
                self.assertEqual(repr(eval(code, space)), following)
                answers += 1
            else:
                exec(code, space)
        self.assertEqual(answers, 24)


class WholeTest(Checks, unittest.TestCase):
    def test_every_function_is_called_here(self):
        names = sorted(call.split("(")[0] for calls in INTERFACE.values() for call in calls)
        self.assertEqual(sorted(CALLS), names)
        self.assertEqual(sorted(METHODS), sorted(call.split("(")[0] for call in METHODS_OF_LEDGER[1:]))
        for name, arguments in CALLS.items():
            self.assertEqual(len(inspect.signature(function_of(name)).parameters), len(arguments), name)

    def test_equal_arguments_have_equal_answers(self):
        answers = {}
        for name, arguments in CALLS.items():
            answers[name] = repr(self.keeps_arguments(function_of(name), *arguments))
        for seed in (1, 2):
            order = sorted(CALLS)
            random.Random(seed).shuffle(order)
            for name in order:
                # What was answered, or refused, in between changes nothing.
                for other in random.Random(name).sample(order, 2):
                    with self.assertRaises(errors.LifeError):
                        function_of(other)(*[None for _ in CALLS[other]])
                self.assertEqual(repr(function_of(name)(*fresh(CALLS[name]))), answers[name], name)

    def test_ratios_of_answers_are_in_lowest_terms(self):
        # The pairs of integers that these functions return are ratios, or payments, covers and lunches.
        others = {"shifted", "level", "kept", "cover_above", "free_lunch", "from_rates", "read_lives"}
        for name in sorted(set(CALLS) - others):
            answer = function_of(name)(*CALLS[name])
            for pair in pairs_within(answer):
                self.assertTrue(is_ratio(pair), (name, answer))
            self.assertLessEqual(set(kinds_within(answer)), {int, bool, str, type(None)}, name)

    def test_keywords(self):
        for name, arguments in CALLS.items():
            function = function_of(name)
            named = dict(zip(inspect.signature(function).parameters, arguments))
            self.same(function(**named), function(*arguments))

    def test_no_errors_but_those_of_the_package(self):
        raised, answered = 0, 0
        for name, arguments in CALLS.items():
            function = function_of(name)
            for path in places(arguments):
                if not path:
                    continue
                for value in ODD if len(path) > 1 else ANYTHING + ODD:
                    changed = replaced(arguments, path, value)
                    before = copy.deepcopy(changed)
                    try:
                        function(*changed)
                        answered += 1
                    except errors.LifeError:
                        raised += 1
                    except Exception as error:
                        self.fail(f"{name} {short(changed)} {error!r}")
                    self.assertEqual(changed, before)
        self.assertGreater(raised, 5 * answered)

    def test_methods_raise_no_other_errors_either(self):
        for name, arguments in METHODS.items():
            ledger = a_ledger()
            getattr(ledger, name)(*arguments)
            for path in places(arguments):
                for value in (ANYTHING if path else []):
                    ledger = a_ledger()
                    try:
                        getattr(ledger, name)(*replaced(arguments, path, value))
                    except errors.LifeError:
                        self.assertEqual([ledger.names(), ledger.flows()], [a_ledger().names(), a_ledger().flows()])

    def test_long_texts_and_deep_values(self):
        deep = ()
        for _ in range(200):
            deep = (deep, [deep], {"a": 1}) if len(repr(deep)) < 1000 else (deep,)
        for name, arguments in CALLS.items():
            for at in range(len(arguments)):
                changed = replaced(arguments, (at,), deep)
                if name.startswith("shows_") and at == len(arguments) - 1:
                    self.same(function_of(name)(*changed), False)
                else:
                    with self.assertRaises(errors.LifeError):
                        function_of(name)(*changed)


if __name__ == "__main__":
    unittest.main()
