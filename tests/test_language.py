"""The language of the package: the rules of LANGUAGE.md that can be read off the code, file by file."""

import ast
import builtins
import pathlib
import re
import unittest
import warnings

FOLDER = pathlib.Path(__file__).resolve().parent.parent / "actuarium"
FILES = sorted(FOLDER.rglob("*.py"))

LIBRARY = {
    "heapq": {"heappush", "heappop", "heapify", "heapreplace", "heappushpop"},
    "math": {"gcd", "lcm", "isqrt", "comb", "perm", "factorial"},
    "itertools": {"product", "combinations", "permutations", "chain", "accumulate", "pairwise", "islice", "zip_longest"},
    "collections": {"defaultdict"},
}
BUILTINS = """len range enumerate zip min max sum abs sorted reversed int str bool list tuple dict set isinstance ord repr
any all divmod map Exception ValueError TypeError KeyError IndexError LookupError ZeroDivisionError ArithmeticError
OverflowError RuntimeError NotImplementedError AttributeError StopIteration super""".split()
METHODS = """append clear copy count endswith extend find get index insert isalnum isalpha isdigit islower isspace isupper
items join keys ljust lower lstrip partition pop remove replace reverse rfind rjust rpartition rsplit rstrip setdefault
split splitlines startswith strip update upper values zfill bit_length""".split()
LAZY = ["zip", "enumerate", "reversed", "range", "map"]
EATERS = ["list", "tuple", "dict", "sorted", "sum", "any", "all", "enumerate", "zip", "min", "max", "join", "reversed", "len",
          "combinations"]
BARRED_NAMES = """register mro elements open input law version_info with_traceback add_note attrgetter breakpoint builtins
compile copyright credits delattr dir eval exec exit gc getattr globals hasattr help id importlib license locals
methodcaller os quit setattr type vars sys""".split()
BARRED_WORDS = """type typing typing_extensions enum Enum IntEnum StrEnum Flag IntFlag Generic Protocol ABC ABCMeta namedtuple
NamedTuple TypedDict TYPE_CHECKING abstractmethod""".split()
STATEMENTS = (ast.Assign, ast.AugAssign, ast.If, ast.While, ast.For, ast.Return, ast.Break, ast.Continue, ast.Pass, ast.Raise,
              ast.Assert, ast.Delete, ast.Expr, ast.FunctionDef, ast.ClassDef, ast.ImportFrom, ast.Try)

INTERFACE = {
    "payments": ["value_at(payments, rate, time)", "shifted(payments, years)", "level(many)"],
    "lives": ["lives_on(lives, age, years)", "dies_in(lives, age, years)", "ages_left(lives, age)", "from_rates(rates)"],
    "livestext": ["write_lives(lives)", "read_lives(text)"],
    "yields": ["yields_above(payments, rate)", "yield_count(payments)", "yield_floor(payments, places)",
               "compare_yields(one, other)", "is_plain(payments)"],
    "loans": ["loan_rows(amount, rate, years)", "left_of_loan(amount, rate, years, time)"],
    "shields": ["mean_time(payments, rate)", "is_shield(one, other, rate)", "shield_paper(one, other, rate)",
                "shows_split(one, other, rate, value)"],
    "policies": ["worth(policy)", "fair_premium(policy)", "reserves(policy)", "fund(policy)", "split_premiums(policy)",
                 "paid_up(policy, time)"],
    "changes": ["worth_with_lapses(policy, lapses, given)", "profits(policy, lives, rate)", "critical(policy, lives, rate)"],
    "losses": ["losses(policy)", "variance(policy)", "chance_of_loss(policy)", "safe_premium(policy, chance)",
               "year_variances(policy)"],
    "states": ["state_values(model, rate)", "chances_at(model, start)", "spread_of(model, rate, start)",
               "first_chance(model, start, goal)"],
    "companions": ["alive_counts(companions, years)", "joint_sums(companions, years)",
                   "value_of_counts(companions, rate, amounts)", "dies_first(companions, index)",
                   "left_alone(companions, rate, index)"],
    "claims": ["mean_claim(claims)", "summed(claims, times)", "random_sum(counts, claims)",
               "binomial_sum(many, chance, claims, most)", "waiting_sum(many, chance, claims, most)"],
    "orders": ["layer(claims, low, high)", "is_smaller(one, other)", "smaller_paper(one, other)",
               "shows_ladder(one, other, value)", "is_safer(one, other)", "safer_witness(one, other)"],
    "shortfalls": ["shortfall(claims, level)", "worst_view(claims, level)", "shows_view(claims, level, value)",
                   "kept(claims, cover)", "cover_above(claims, edge)", "best_edge(claims, cover)"],
    "ruin": ["ruin_within(claims, start, years)", "ruin_ever(claims, start)", "always_behind(claims, years)",
             "deficits(claims)", "years_to_ruin(claims, cap, start)", "gifts_value(claims, cap, start, rate)",
             "best_cap(claims, rate)"],
    "triangles": ["factors(triangle)", "ultimates(triangle)", "spreads(triangle)", "marginal_fit(triangle)",
                  "shows_fit(triangle, value)"],
    "markets": ["worths(market)", "free_lunch(market)", "shows_worths(market, value)", "shows_lunch(market, value)",
                "cheapest_cover(market, wanted)", "dearest_worths(market, wanted)"],
    "learning": ["kinds_after(prior, seen)", "expected_after(prior, seen)", "fair_weight(prior, years)",
                 "linear_after(prior, seen)"],
    "estimates": ["product_limit(records)", "smoothed(rates, weights, order, strength)"],
    "stopping": ["best_values(model, rate, offers)", "stop_times(model, rate, offers)", "corrections(model, rate, offers)",
                 "shows_corrections(model, rate, offers, value)"],
    "pools": ["pool_shortfall(outcomes, members, level)", "shares(outcomes, level)", "shows_shares(outcomes, level, value)"],
    "bounds": ["worst_chances(top, facts, paid)", "bound_paper(top, facts, paid)", "shows_bound(top, facts, paid, value)"],
    "scales": ["steady_classes(scale, counts)", "fair_levels(scale, prior)", "mean_level(scale, counts)",
               "hunger(scale, claims, years, rate)"],
    "curves": ["value_on_curve(payments, curve)", "par_rates(curve)", "from_pars(pars)"],
}
METHODS_OF_LEDGER = ["__init__(self, lives, rate)", "put(self, name, entry)", "drop(self, name)", "get(self, name)", "names(self)",
                     "undo(self)", "age_on(self)", "worth_of_all(self)", "flows(self)", "least_change(self, wanted)"]


def tree_of(file):
    with warnings.catch_warnings():
        warnings.simplefilter("error")
        return ast.parse(file.read_text(encoding="utf-8"))


def functions_of(tree):
    return [node for node in ast.walk(tree) if isinstance(node, ast.FunctionDef)]


def bound_names(function):
    """Return the parameters and the names that a function assigns."""
    names = [node.arg for node in ast.walk(function) if isinstance(node, ast.arg)]
    return names + [node.id for node in ast.walk(function) if isinstance(node, ast.Name) and isinstance(node.ctx, ast.Store)]


def module_names(tree):
    """Return the names that a file binds at module level, imports included, in order."""
    names = []
    for node in tree.body:
        if isinstance(node, ast.ImportFrom):
            names += [alias.name for alias in node.names]
        elif isinstance(node, (ast.FunctionDef, ast.ClassDef)):
            names.append(node.name)
        elif isinstance(node, ast.Assign):
            names += [target.id for target in node.targets]
    return names


def called(node):
    """Return the name of what a call calls, None for what is no call."""
    if not isinstance(node, ast.Call):
        return None
    return node.func.id if isinstance(node.func, ast.Name) else getattr(node.func, "attr", None)


class LanguageTest(unittest.TestCase):
    file = "no file"

    def each(self):
        for file in FILES:
            self.file = file.name
            yield file, tree_of(file)

    def _formatMessage(self, msg, standardMsg):
        return f"{self.file}: {super()._formatMessage(msg, standardMsg)}"

    def test_l1_l14_files_and_characters(self):
        inside = [path for path in FOLDER.rglob("*") if "__pycache__" not in path.parts]
        self.assertEqual(sorted(inside), FILES)
        self.assertLessEqual(len(FILES), 100)
        for file in FILES:
            self.assertRegex(file.name, r"\A(__init__|[a-z][a-z0-9_]*)\.py\Z")
            self.assertEqual(set(re.sub(r"[ -~\n]", "", file.read_text(encoding="utf-8"))), set(), file.name)

    def test_l2_l16_imports(self):
        own = {file.stem: tree for file, tree in self.each()}
        needs = {}
        for file, tree in self.each():
            at_top, needs[file.stem] = True, []
            text = file.read_text(encoding="utf-8")
            for node in tree.body:
                if isinstance(node, ast.ImportFrom):
                    self.assertTrue(at_top)
                    self.assertEqual(node.level, 0)
                    self.assertTrue(all(alias.asname is None for alias in node.names))
                    names = {alias.name for alias in node.names}
                    self.assertTrue(all(len(re.findall(rf"\b{name}\b", text)) > 1 for name in names), names)
                    if node.module in LIBRARY:
                        self.assertLessEqual(names, LIBRARY[node.module])
                        continue
                    package, stem = node.module.split(".")
                    self.assertEqual(package, "actuarium")
                    needs[file.stem].append(stem)
                    defined = module_names(ast.Module([part for part in own[stem].body
                                                       if not isinstance(part, ast.ImportFrom)], []))
                    self.assertLessEqual(names, set(defined))
                elif not isinstance(node, ast.Expr):
                    at_top = False
            self.assertFalse([node for node in ast.walk(tree) if isinstance(node, ast.Import)])
        while needs:
            free = [stem for stem in needs if not set(needs[stem]) & set(needs)]
            self.assertTrue(free, "files import from each other")
            for stem in free:
                del needs[stem]

    def test_l3_l15_module_level(self):
        for _, tree in self.each():
            names = module_names(tree)
            self.assertEqual(len(names), len(set(names)))
            for at, node in enumerate(tree.body):
                if isinstance(node, ast.Assign):
                    self.assertEqual(len(node.targets), 1)
                    ast.literal_eval(node.value)
                elif isinstance(node, ast.Expr):
                    self.assertEqual(at, 0)
                    self.assertIsInstance(node.value.value, str)
                else:
                    self.assertIsInstance(node, (ast.ImportFrom, ast.FunctionDef, ast.ClassDef))

    def test_l4_l5_functions_and_classes(self):
        for _, tree in self.each():
            for function in functions_of(tree):
                self.assertEqual(function.decorator_list, [])
                self.assertTrue(ast.get_docstring(function) or function.name == "__init__", function.name)
            for node in ast.walk(tree):
                if isinstance(node, ast.ClassDef):
                    self.assertEqual(node.decorator_list, [])
                    self.assertEqual(len(node.bases), 0 if node.name == "Ledger" else 1)

    def test_l6_l7_statements_and_expressions(self):
        for _, tree in self.each():
            for node in ast.walk(tree):
                if isinstance(node, ast.stmt):
                    self.assertIsInstance(node, STATEMENTS)
                self.assertNotIsInstance(node, (ast.Set, ast.SetComp, ast.Div, ast.MatMult, ast.Await, ast.NamedExpr))
                if isinstance(node, ast.Constant):
                    self.assertIn(node.value.__class__, (int, str, bool, None.__class__))
                if isinstance(node, ast.BinOp) and isinstance(node.op, ast.Pow):
                    self.assertIsInstance(node.right, ast.Constant)

    def test_l8_l15_l17_names(self):
        every_builtin = set(dir(builtins))
        for _, tree in self.each():
            top = module_names(tree)
            imported_or_class = set()
            for node in tree.body:
                if isinstance(node, ast.ImportFrom):
                    imported_or_class |= {alias.name for alias in node.names}
                if isinstance(node, ast.ClassDef):
                    imported_or_class.add(node.name)
            known = set(top)
            for function in functions_of(tree):
                names = bound_names(function)
                self.assertFalse(set(names) & imported_or_class, function.name)
                for name in [*names, *top]:
                    self.assertRegex(name, r"\A(_|_?[A-Za-z][A-Za-z0-9_]*)\Z")
                    self.assertFalse(name in every_builtin and name != "_", name)
                    self.assertNotIn(name, BARRED_NAMES)
                for node in ast.walk(function):
                    if isinstance(node, ast.Name) and isinstance(node.ctx, ast.Load):
                        self.assertIn(node.id, known | set(names) | set(BUILTINS), function.name)
                        self.assertNotEqual(node.id, "_")

    def test_l10_sizes(self):
        for file, tree in self.each():
            lines = file.read_text(encoding="utf-8").split("\n")
            self.assertLessEqual(len(lines) - 1, 399)
            self.assertLessEqual(max(len(line) for line in lines), 120)
            self.assertEqual(lines[-1], "")
            for function in functions_of(tree):
                self.assertLessEqual(function.end_lineno - function.lineno + 1, 40, function.name)

    def test_l17_words(self):
        for file, tree in self.each():
            docs = [ast.get_docstring(node, clean=False) for node in ast.walk(tree)
                    if isinstance(node, (ast.Module, ast.ClassDef, ast.FunctionDef))]
            text = file.read_text(encoding="utf-8")
            for doc in docs:
                text = text.replace(doc, "") if doc else text
            text = re.sub(r"#.*", "", text)
            for word in BARRED_WORDS:
                self.assertIsNone(re.search(rf"\b{word}\b", text), word)
            for part in ("dataclass", "overload", "contextmanager", "_wall"):
                self.assertNotIn(part, text)

    def test_l19_l20_errors_and_is(self):
        errors = set(module_names(tree_of(FOLDER / "errors.py")))
        for _, tree in self.each():
            for node in ast.walk(tree):
                if isinstance(node, ast.Raise):
                    self.assertIn(called(node.exc), errors)
                    self.assertEqual(node.exc.keywords, [])
                if isinstance(node, ast.Compare):
                    for sign, side in zip(node.ops, node.comparators):
                        if isinstance(sign, (ast.Is, ast.IsNot)):
                            self.assertTrue(side.value is None or isinstance(side.value, bool))

    def test_l22_l25_calls(self):
        for _, tree in self.each():
            for node in ast.walk(tree):
                if not isinstance(node, ast.Call):
                    continue
                if isinstance(node.func, ast.Attribute):
                    own = [function.name for function in functions_of(tree)]
                    of_self = isinstance(node.func.value, ast.Name) and node.func.value.id == "self"
                    allowed = METHODS if called(node) != "__init__" else ["__init__"]
                    self.assertIn(called(node), own if of_self else allowed)
                    self.assertEqual(node.keywords, [])
                else:
                    self.assertIsInstance(node.func, ast.Name)
                    if called(node) in BUILTINS:
                        self.assertLessEqual({word.arg for word in node.keywords}, {"key", "reverse", "default", "start", "strict"})

    def test_l23_iterated_at_once(self):
        for _, tree in self.each():
            allowed = set()
            for node in ast.walk(tree):
                if isinstance(node, (ast.For, ast.comprehension)):
                    allowed.add(node.iter)
                if called(node) in EATERS:
                    allowed |= set(node.args)
                if isinstance(node, ast.Compare):
                    allowed |= set(node.comparators)
            for node in ast.walk(tree):
                if called(node) in LAZY or isinstance(node, ast.GeneratorExp):
                    self.assertIn(node, allowed)
                self.assertNotIsInstance(node, (ast.Yield, ast.YieldFrom))
                if isinstance(node, ast.Starred) and isinstance(node.ctx, ast.Load):
                    self.assertIsInstance(node.value, (ast.Name, ast.Subscript, ast.List))

    def test_l27_strings(self):
        for file, tree in self.each():
            for node in ast.walk(tree):
                if isinstance(node, ast.Constant) and isinstance(node.value, str):
                    self.assertNotIn("%", node.value)
                    self.assertFalse(node.value.endswith(("._", ".__")))
                if isinstance(node, ast.FormattedValue):
                    self.assertIsInstance(node.value, ast.Name)
            self.assertEqual(re.findall(r"\\[^nt\\'\"]", file.read_text(encoding="utf-8")), [])


class InterfaceTest(unittest.TestCase):
    def stand_in(self, body, calls):
        defined = {node.name: node for node in body if isinstance(node, ast.FunctionDef)}
        for call in calls:
            name, arguments = call.rstrip(")").split("(")
            found = defined[name].args
            self.assertEqual(", ".join(argument.arg for argument in found.args), arguments, call)
            self.assertEqual([found.defaults, found.kwonlyargs, found.vararg, found.kwarg], [[], [], None, None])

    def test_functions_stand_where_they_are_listed(self):
        for stem, calls in INTERFACE.items():
            self.stand_in(tree_of(FOLDER / f"{stem}.py").body, calls)

    def test_methods_stand_in_the_class_itself(self):
        classes = [node for node in tree_of(FOLDER / "ledger.py").body if isinstance(node, ast.ClassDef)]
        self.assertEqual([node.name for node in classes], ["Ledger"])
        self.stand_in(classes[0].body, METHODS_OF_LEDGER)


if __name__ == "__main__":
    unittest.main()
