"""The rules of the language that a look at the code can decide, and the interface of the modules."""

import ast
import builtins
import importlib
import inspect
import os
import re
import unittest

import elenchus

FOLDER = os.path.dirname(elenchus.__file__)

BUILTINS = """
len range enumerate zip min max sum abs sorted reversed int str bool bytes list tuple dict set
frozenset isinstance ord repr any all divmod pow getattr hasattr setattr iter next map super
property staticmethod classmethod object print Exception ValueError TypeError KeyError IndexError
LookupError ZeroDivisionError ArithmeticError OverflowError RuntimeError NotImplementedError
AttributeError StopIteration NotImplemented
""".split()

METHODS = """
append clear copy count endswith extend find get index insert isalnum isalpha isdigit islower
isspace isupper items join keys ljust lower lstrip partition pop remove replace reverse rfind rjust
rpartition rsplit rstrip setdefault split splitlines startswith strip update upper values zfill
bit_length add discard sort format title capitalize swapcase casefold center expandtabs removeprefix
removesuffix rindex isascii isdecimal isnumeric istitle isidentifier isprintable translate
""".split()

BARRED_ATTRIBUTES = """
items keys values pop update append clear extend insert remove reverse setdefault sort args encode
decode hex fromhex format
""".split()

SPECIAL_METHODS = """
__init__ __eq__ __repr__ __str__ __len__ __enter__ __exit__ __call__ __iter__ __lt__ __le__ __gt__
__ge__ __ne__ __contains__ __getitem__ __setitem__ __bool__
""".split()

CHANGING_METHODS = "append extend insert pop remove clear update setdefault reverse sort add discard".split()

UNUSED_NAMES = """
register mro elements open input law version_info with_traceback add_note attrgetter breakpoint
builtins compile copyright credits delattr dir eval exec exit gc globals help id importlib license
locals methodcaller os quit type vars sys
""".split()

UNUSED_WORDS = """
type typing typing_extensions enum Enum IntEnum StrEnum Flag IntFlag Generic Protocol ABC ABCMeta
namedtuple NamedTuple TypedDict TYPE_CHECKING abstractmethod dataclass overload contextmanager _wall
_WallAttr
""".split()

INTERFACE = {
    "terms": ["is_variable(term)", "is_ground(term)", "size(term)", "nesting(term)", "variables(term)",
              "occurs(variable, term)", "positions(term, *, with_variables=True)", "subterm_at(term, position)",
              "replace_at(term, position, new)", "shift(term, by)", "symbols(term)"],
    "show": ["show_term(term)", "show_literal(literal)", "show_clause(clause)", "show_formula(formula)"],
    "unify": ["apply(substitution, term)", "compose(first, second)", "match(pattern, term, *, known=None)",
              "match_all(pairs, *, known=None)", "unify(first, second)", "unify_all(pairs)"],
    "lexer": ["tokens(text)"],
    "reader": ["read_statements(text)", "read_formula(text)", "read_term(text)", "read_clause(text)"],
    "formulas": ["formula_signature(formulas)", "clause_signature(clauses)", "free_variables(formula)",
                 "formula_literals(formula)"],
    "structures": ["assignments(names, size)", "clause_holds(structure, clause)", "formula_holds(structure, formula)",
                   "counterexample(structure, clause)"],
    "negation": ["negation_normal(formula)", "normal_size(formula, *, negated=False)"],
    "skolem": ["close(formula)", "rename_bound(formula)", "skolemize(formula, *, taken=())",
               "skolem_tables(structure, skolemization)"],
    "clausify": ["matrix_clauses(matrix, *, limit=200)", "clausify(axioms, *, limit=200)"],
    "ordering": ["literal_terms(literal)", "compare_literals(ordering, first, second)",
                 "compare_clauses(ordering, first, second)",
                 "is_maximal(ordering, clause, index, *, strictly=False)"],
    "selection": ["selected(ordering, clause, selection)",
                  "eligible(ordering, clause, index, substitution, selection, *, strictly=False)"],
    "clauses": ["alike(literal, other)", "opposite(literal, other)", "is_tautology(clause)", "normal(clause)",
                "literal_weight(literal)", "clause_weight(clause)", "clause_variables(clause)",
                "shift_clause(clause, by)", "rename_apart(first, second)"],
    "subsumption": ["subsuming_substitution(clause, other)", "subsumes(clause, other)", "are_variants(clause, other)"],
    "superposition": ["superpose(ordering, selection, first, second, source, target)",
                      "superpositions(ordering, selection, first, second)"],
    "equality": ["resolve(ordering, selection, clause, index)", "factor(ordering, selection, clause, first, second)",
                 "resolutions(ordering, selection, clause)", "factorings(ordering, selection, clause)"],
    "simplify": ["clean(clause)", "rewrite_at(ordering, clause, rule, rule_side, index, side, position)",
                 "cut_at(clause, cutter, index)", "simplify(ordering, clause, units)",
                 "reduces(ordering, clause, clauses)"],
    "saturation": ["open_inference(ordering, selection, clauses)", "covers(ordering, clauses, clause)"],
    "rewriting": ["ground_terms(ordering, clauses, weight)"],
    "derivation": ["predicates(clauses)", "step_error(inputs, steps, number)", "check(inputs, steps)",
                   "is_refutation(inputs, steps)", "conclude(inputs, steps, rule, premises, data)", "needed(steps)",
                   "prune(steps)", "used_inputs(steps)"],
    "expansion": ["expand(inputs, records, number)", "supporting(records, number)"],
    "finder": ["follows(clauses, clause)", "accepted(clauses, refutation)", "search(clauses, count, *, limit=1000)",
               "find_structure(clauses, size, *, limit=1000)", "find_least(clauses, greatest, *, limit=1000)"],
    "completion": ["rewrite(rules, term)", "normalize(rules, term)", "critical_pairs(first, second)",
                   "converges(ordering, rules)", "complete(ordering, equations, steps)",
                   "joined(rules, first, second)"],
    "report": ["show_steps(steps)", "read_steps(lines)", "show_structure(structure)", "read_structure(lines)",
               "report(answer, names)"],
}

CLASSES = {
    ("formulas", "Signature"): [
        "__init__(self)", "add_function(self, symbol, arity)", "add_predicate(self, symbol, arity)", "functions(self)",
        "predicates(self)", "arity(self, symbol)", "is_predicate(self, symbol)", "__contains__(self, symbol)",
        "__len__(self)"],
    ("structures", "Structure"): [
        "__init__(self, size, functions, predicates)", "functions(self)", "predicates(self)",
        "value(self, term, assignment)", "literal_holds(self, literal, assignment)",
        "clause_holds_at(self, clause, assignment)", "formula_holds_at(self, formula, assignment)",
        "completed(self, signature)", "renamed(self, signature, permutation)", "__eq__(self, other)"],
    ("clausify", "ClauseForm"): ["__len__(self)", "__iter__(self)"],
    ("weights", "Ordering"): [
        "__init__(self, weights, precedence)", "symbol_weight(self, symbol)", "ranks_higher(self, first, second)",
        "weight(self, term)", "compare(self, first, second)"],
    ("subsumption", "ClauseSet"): [
        "__init__(self)", "insert(self, clause)", "clause(self, number)", "numbers(self)", "subsumer(self, clause)",
        "has_variant(self, clause)", "__len__(self)", "__iter__(self)"],
    ("tree", "TermTree"): [
        "__init__(self)", "add(self, term, value)", "discard(self, term, value)", "generalizations(self, term)",
        "instances(self, term)", "unifiable(self, term)", "variants(self, term)", "entries(self)"],
    ("rewriting", "RewritingModel"): [
        "__init__(self, ordering, clauses, *, selection=0)", "rules(self, weight)", "normal_form(self, term)",
        "is_true(self, clause)"],
    ("passive", "Passive"): [
        "__init__(self, *, by_weight=4, by_age=1)", "add(self, number, weight)", "take(self)", "__len__(self)",
        "__contains__(self, number)", "__iter__(self)"],
    ("loop", "Prover"): [
        "__init__(self, ordering, *, selection=0, by_weight=4, by_age=1)", "add(self, clause)", "run(self, steps)",
        "record(self, number)"],
    ("ground", "Grounding"): [
        "__init__(self, clauses, size)", "clauses(self)", "meaning(self, number)",
        "number(self, symbol, arguments, element=None)", "structure(self, numbers)"],
    ("session", "Session"): [
        "__init__(self, *, weights=None, precedence=(), selection=1, by_weight=4, by_age=1)", "add(self, text)",
        "push(self)", "pop(self)", "statements(self)", "clauses(self)", "attempt(self, *, steps=100)",
        "support(self, answer)", "structure(self, *, greatest=3, limit=1000)"],
}


def sources():
    """Return a dict from the names of the modules to their texts."""
    found = {}
    for name in sorted(os.listdir(FOLDER)):
        if name.endswith(".py"):
            with open(os.path.join(FOLDER, name), encoding="utf-8") as file:
                found[name[:-3]] = file.read()
    return found


SOURCES = sources()
TREES = {name: ast.parse(text) for name, text in SOURCES.items()}


def nodes(kind):
    """Return the pairs (module, node) of all nodes of this kind."""
    return [(name, node) for name, tree in TREES.items() for node in ast.walk(tree) if isinstance(node, kind)]


class Files(unittest.TestCase):
    """Rules L1, L10, L12 and L14."""

    def test_the_folder_has_nothing_but_modules(self):
        for name in os.listdir(FOLDER):
            if name != "__pycache__":
                self.assertRegex(name, r"^(__init__|[a-z][a-z0-9_]*)\.py$")

    def test_characters_and_lines(self):
        for name, text in SOURCES.items():
            with self.subTest(name=name):
                self.assertRegex(text, r"\A[ -~\n]*\Z")
                self.assertLess(text.count("\n"), 400)
                self.assertLessEqual(max(len(line) for line in text.split("\n")), 120)

    def test_functions_have_at_most_40_lines(self):
        for name, node in nodes(ast.FunctionDef):
            self.assertLessEqual(node.end_lineno - node.lineno + 1, 40, (name, node.name))

    def test_words_that_are_not_used(self):
        for name, text in SOURCES.items():
            code = ast.unparse(without_docstrings(TREES[name]))
            for word in UNUSED_WORDS:
                self.assertIsNone(re.search(rf"\b{word}\b", code), (name, word))


class Imports(unittest.TestCase):
    """Rules L2, L15 and L16."""

    def test_names_come_from_the_files_that_define_them(self):
        self.assertEqual([], nodes(ast.Import))
        for name, node in nodes(ast.ImportFrom):
            package, _, module = node.module.partition(".")
            self.assertEqual((package, node.level), ("elenchus", 0), name)
            for alias in node.names:
                self.assertIn(alias.name, defined(module), (name, module))
                self.assertIsNone(alias.asname)
                self.assertGreater(len(re.findall(rf"\b{alias.name}\b", SOURCES[name])), 1, (name, alias.name))

    def test_no_two_files_import_from_each_other(self):
        below = {name: [] for name in TREES}
        for name, node in nodes(ast.ImportFrom):
            below[name].append(node.module.partition(".")[2])
        left = dict(below)
        while left:
            free = [name for name in left if not any(module in left for module in left[name])]
            self.assertNotEqual(free, [], left)
            left = {name: left[name] for name in left if name not in free}

    def test_imports_stand_at_the_top(self):
        for name, tree in TREES.items():
            kinds = [isinstance(node, ast.ImportFrom) for node in tree.body[1:]]
            self.assertEqual(kinds, sorted(kinds, reverse=True), name)
            self.assertEqual(sum(kinds), len([pair for pair in nodes(ast.ImportFrom) if pair[0] == name]))


class Code(unittest.TestCase):
    """Rules L3 to L8, L12, L15, L17, L25 and L27."""

    def test_the_module_level(self):
        for name, tree in TREES.items():
            self.assertIsNotNone(ast.get_docstring(tree), name)
            for node in tree.body[1:]:
                self.assertIsInstance(node, (ast.ImportFrom, ast.FunctionDef, ast.ClassDef, ast.Assign), name)
            names = [name for node in tree.body for name in bound_names(node)]
            self.assertEqual(len(names), len(set(names)), name)

    def test_statements_and_values(self):
        for kind in (ast.Global, ast.AsyncFunctionDef, ast.AsyncFor, ast.AsyncWith, ast.Await, ast.Div):
            self.assertEqual(nodes(kind), [], kind)
        for name, node in nodes(ast.Constant):
            self.assertNotIsInstance(node.value, (float, complex), name)
            if isinstance(node.value, str):
                self.assertNotIn("%", node.value, name)

    def test_decorators(self):
        for name, node in nodes((ast.FunctionDef, ast.ClassDef)):
            if isinstance(node, ast.ClassDef):
                self.assertEqual(node.decorator_list, [], (name, node.name))
            for decorator in node.decorator_list:
                self.assertRegex(ast.unparse(decorator), r"^(property|staticmethod|classmethod|\w+\.setter)$", name)

    def test_builtins(self):
        for name, node in nodes(ast.Name):
            if hasattr(builtins, node.id):
                self.assertIsInstance(node.ctx, ast.Load, (name, node.id))
                self.assertIn(node.id, BUILTINS, name)

    def test_bound_names(self):
        for name, tree in TREES.items():
            taken = [alias.name for node in ast.walk(tree) if isinstance(node, ast.ImportFrom) for alias in node.names]
            taken += [node.name for node in tree.body if isinstance(node, ast.ClassDef)]
            local = [node.arg for node in ast.walk(tree) if isinstance(node, ast.arg)]
            local += [node.id for node in ast.walk(tree)
                      if isinstance(node, ast.Name) and isinstance(node.ctx, ast.Store)]
            for word in local:
                self.assertNotIn(word, taken, name)
            for word in local + [node.name for node in tree.body if isinstance(node, (ast.FunctionDef, ast.ClassDef))]:
                self.assertFalse(hasattr(builtins, word), (name, word))
                self.assertNotIn(word, UNUSED_NAMES, name)
                self.assertRegex(word, r"^(_|_?[A-Za-z][A-Za-z0-9_]*)$", name)

    def test_methods(self):
        own = [part.name for _, node in nodes(ast.ClassDef) for part in node.body if isinstance(part, ast.FunctionDef)]
        for name, node in nodes(ast.Call):
            if isinstance(node.func, ast.Attribute):
                self.assertIn(node.func.attr, own + METHODS, name)
        for word in own:
            self.assertNotIn(word, UNUSED_NAMES)
            self.assertTrue(word in SPECIAL_METHODS or not word.startswith("__"), word)

    def test_attributes(self):
        for name, node in nodes(ast.ClassDef):
            methods = [part.name for part in node.body if isinstance(part, ast.FunctionDef)]
            for part in ast.walk(node):
                if isinstance(part, ast.Attribute) and isinstance(part.ctx, ast.Store):
                    self.assertNotIn(part.attr, methods + BARRED_ATTRIBUTES + UNUSED_NAMES[:9], name)


class Loops(unittest.TestCase):
    """Rule L23: what a loop iterates over is not changed in it, by whatever name of the same function."""

    def changes(self, text):
        """Return the lines of a function at which a loop changes what it iterates over."""
        return changes_in_loops(ast.parse(text).body[0])

    def test_no_loop_changes_what_it_iterates_over(self):
        for name, node in nodes(ast.FunctionDef):
            self.assertEqual(changes_in_loops(node), [], (name, node.name))

    def test_changes_by_the_name(self):
        self.assertEqual(self.changes("def f(a):\n for x in a:\n  a.append(x)"), [3])
        self.assertEqual(self.changes("def f(a):\n for k, x in enumerate(a.b):\n  a.b[k] = x\n  del a.b[k]"), [3, 4])
        self.assertEqual(self.changes("def f(a):\n for k, x in a.items():\n  a[k] += 1"), [3])
        self.assertEqual(self.changes("def f(a):\n return [a.pop() for x in a]"), [2])

    def test_changes_by_another_name(self):
        self.assertEqual(self.changes("def f(a):\n b = a\n for x in a:\n  b.append(x)"), [4])
        self.assertEqual(self.changes("def f(a):\n for y in a:\n  b = []\n  for x in a:\n   b.extend(x)\n  a = b"), [5])
        self.assertEqual(self.changes("def f(a, c):\n b = a if c else []\n for x in c or b:\n  a.append(x)"), [4])
        self.assertEqual(self.changes("def f(a):\n b, c = 1, a.d\n for x in c:\n  a.d.append(x)"), [4])

    def test_changes_of_something_else(self):
        self.assertEqual(self.changes("def f(a):\n b = []\n for x in a:\n  b.append(x)\n return b"), [])
        self.assertEqual(self.changes("def f(a):\n b = a\n for x in list(a):\n  b.append(x)"), [])
        self.assertEqual(self.changes("def f(a):\n for x in a:\n  x.append(1)\n  a = [x]\n  k = a.get(x)"), [])


class Interface(unittest.TestCase):
    """Each function, class and method is defined where the document lists it."""

    def test_functions(self):
        for name, lines in INTERFACE.items():
            module = importlib.import_module(f"elenchus.{name}")
            for line in lines:
                function = getattr(module, line.partition("(")[0])
                self.assertEqual(function.__name__ + str(inspect.signature(function)), line)
                self.assertEqual(function.__module__, f"elenchus.{name}")

    def test_classes(self):
        for (name, word), lines in CLASSES.items():
            thing = getattr(importlib.import_module(f"elenchus.{name}"), word)
            self.assertEqual(thing.__module__, f"elenchus.{name}")
            for line in lines:
                method = vars(thing)[line.partition("(")[0]]
                self.assertEqual(method.__name__ + str(inspect.signature(method)), line)

    def test_properties(self):
        cases = [("structures", "Structure", "size"), ("skolem", "Skolemization", "skolem_symbols"),
                 ("weights", "Ordering", "precedence"), ("tree", "TermTree", "node_count"),
                 ("loop", "Prover", "history"),
                 ("loop", "Prover", "active"), ("loop", "Prover", "waiting"),
                 ("ground", "Grounding", "variable_count"), ("session", "Session", "level")]
        for name, word, attribute in cases:
            thing = getattr(importlib.import_module(f"elenchus.{name}"), word)
            self.assertIsInstance(vars(thing)[attribute], property)

    def test_assignments_is_a_generator(self):
        module = importlib.import_module("elenchus.structures")
        self.assertTrue(inspect.isgeneratorfunction(module.assignments))


def bound_names(node):
    """Return the names that a statement at module level binds."""
    if isinstance(node, ast.ImportFrom):
        return [alias.name for alias in node.names]
    if isinstance(node, ast.Assign):
        return [target.id for target in node.targets]
    return [node.name] if isinstance(node, (ast.FunctionDef, ast.ClassDef)) else []


def defined(module):
    """Return the names that a module defines itself."""
    return [name for node in TREES[module].body if not isinstance(node, ast.ImportFrom) for name in bound_names(node)]


def names_of(value):
    """Return what a value may be another name of: names, attributes and items, written out."""
    if isinstance(value, (ast.Name, ast.Attribute, ast.Subscript)):
        return [ast.unparse(value)]
    inner = []
    if isinstance(value, ast.IfExp):
        inner = [value.body, value.orelse]
    elif isinstance(value, ast.BoolOp):
        inner = value.values
    elif isinstance(value, ast.Call) and ast.unparse(value.func) in ("enumerate", "zip", "reversed", "iter"):
        inner = value.args
    elif isinstance(value, ast.Call) and ast.unparse(value.func).endswith((".items", ".keys", ".values")):
        inner = [value.func.value]
    return [name for part in inner for name in names_of(part)]


def targets_of(node):
    """Return the pairs of a target and the value that a statement gives it; the value may be None."""
    if isinstance(node, ast.Assign):
        pairs = [(target, node.value) for target in node.targets]
        for target, value in list(pairs):
            if isinstance(target, ast.Tuple) and isinstance(value, ast.Tuple):
                pairs.extend(zip(target.elts, value.elts))
        return pairs
    if isinstance(node, ast.Delete):
        return [(target, None) for target in node.targets]
    return [(node.target, None)] if isinstance(node, ast.AugAssign) else []


def same_names(function):
    """Return a dict from names of a function to a name that all names of the same thing have in common."""
    common = {}
    for node in ast.walk(function):
        for target, value in targets_of(node):
            for name in names_of(value):
                first, second = common.get(ast.unparse(target), ast.unparse(target)), common.get(name, name)
                common = {**{word: first if common[word] == second else common[word] for word in common},
                          ast.unparse(target): first, name: first}
    return common


def changed_names(node):
    """Return the names of what a call or a statement changes."""
    if isinstance(node, ast.Call) and isinstance(node.func, ast.Attribute) and node.func.attr in CHANGING_METHODS:
        return names_of(node.func.value)
    items = [target.value for target, _ in targets_of(node) if isinstance(target, ast.Subscript)]
    return [name for item in items for name in names_of(item)]


def changes_in_loops(function):
    """Return the lines of a function at which a loop or comprehension changes what it iterates over."""
    common = same_names(function)
    lines = []
    for loop in ast.walk(function):
        generators = [loop] if isinstance(loop, ast.For) else getattr(loop, "generators", [])
        walked = [common.get(name, name) for part in generators for name in names_of(part.iter)]
        body = loop.body if isinstance(loop, ast.For) else [loop]
        for node in [node for statement in body for node in ast.walk(statement)]:
            lines += [node.lineno for name in changed_names(node) if common.get(name, name) in walked]
    return sorted(set(lines))


def without_docstrings(tree):
    """Return a copy of the tree without docstrings."""
    tree = ast.parse(ast.unparse(tree))
    for node in ast.walk(tree):
        if isinstance(node, (ast.Module, ast.ClassDef, ast.FunctionDef)) and ast.get_docstring(node) is not None:
            node.body[0].value.value = ""
    return tree


if __name__ == "__main__":
    unittest.main()
