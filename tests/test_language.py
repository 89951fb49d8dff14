"""LANGUAGE.md, as far as a look at the files of the package can tell."""

import ast
import builtins
import io
import pathlib
import re
import tokenize
import unittest

PACKAGE = pathlib.Path(__file__).resolve().parent.parent / "interline"
FILES = sorted(PACKAGE.rglob("*.py"))
TREES = {path: ast.parse(path.read_text(encoding="ascii")) for path in FILES}

BUILTINS = set("""len range enumerate zip min max sum abs sorted reversed int str bool list tuple dict set isinstance
    iter ord repr any all divmod ValueError KeyError""".split())
DOUBLE = ("__init__", "__len__", "__iter__")
LIBRARY = {"heapq": {"heappush", "heappop"}}
METHODS = set("""append clear copy count endswith extend find get index insert isalnum isalpha isdigit islower isspace
    isupper items join keys ljust lower lstrip partition pop remove replace reverse rfind rjust rpartition rsplit
    rstrip setdefault split splitlines startswith strip update upper values zfill bit_length""".split())
KEYWORDS = {"sorted": {"reverse"}, "min": {"default"}, "max": {"default"}, "enumerate": {"start"}, "sum": {"start"}}
STATEMENTS = (ast.Assign, ast.AugAssign, ast.If, ast.While, ast.For, ast.Return, ast.Break, ast.Continue, ast.Raise,
              ast.Expr, ast.FunctionDef, ast.ClassDef, ast.ImportFrom, ast.Try, ast.Pass, ast.Delete)
NOWHERE = set("mro elements open input law version_info with_traceback add_note register".split())
BARRED = set("""attrgetter breakpoint builtins compile copyright credits delattr dir eval exec exit gc getattr globals
    hasattr help id importlib license locals methodcaller os quit setattr super type vars sys""".split())
WORDS = set("""type typing typing_extensions enum Enum IntEnum StrEnum Flag IntFlag Generic Protocol ABC ABCMeta
    namedtuple NamedTuple TypedDict TYPE_CHECKING abstractmethod""".split())
ATTRIBUTES = set("""items keys values pop update append clear extend insert remove reverse setdefault sort args encode
    decode hex fromhex format""".split())


def nodes(kinds):
    """All nodes of some kinds, with the files where they stand."""
    return [(path.name, node) for path, tree in TREES.items() for node in ast.walk(tree) if isinstance(node, kinds)]


def plain(node, functions):
    """Whether an expression is a plain value, or a tuple or a dict of plain values and functions."""
    if isinstance(node, ast.Tuple):
        return all(plain(part, functions) for part in node.elts)
    if isinstance(node, ast.Dict):
        return all(isinstance(key, ast.Constant) for key in node.keys) and \
            all(not isinstance(part, ast.Dict) and plain(part, functions) for part in node.values)
    if isinstance(node, ast.Name):
        return node.id in functions
    return isinstance(node, ast.Constant) and isinstance(node.value, (int, str, type(None)))


def place_text(node):
    """A name, an attribute or an item as a text, all items of one list told alike."""
    if isinstance(node, ast.Subscript):
        return place_text(node.value) + "[]"
    if isinstance(node, ast.Attribute):
        return place_text(node.value) + "." + node.attr
    return ast.unparse(node)


def may_be(node):
    """The places whose very value an expression may give."""
    if isinstance(node, (ast.Name, ast.Attribute, ast.Subscript)):
        return {place_text(node)}
    if isinstance(node, ast.IfExp):
        return may_be(node.body) | may_be(node.orelse)
    if isinstance(node, ast.BoolOp):
        return set().union(*map(may_be, node.values))
    if isinstance(node, ast.Call) and isinstance(node.func, ast.Name) and node.func.id in ("min", "max"):
        return set().union(*map(may_be, node.args))
    return set()


def assigned(target, value):
    """Sets of places that have one value behind an assignment."""
    if not isinstance(target, ast.Tuple):
        return [{place_text(target)} | may_be(value)]
    if isinstance(value, ast.Tuple):
        return [places for one, part in zip(target.elts, value.elts) for places in assigned(one, part)]
    return [{place_text(one)} | {text + "[]" for text in may_be(value)} for one in target.elts]


def changed_by_itself(function):
    """The rows of `extend`, `update`, `+=` and `|=` in a function that may get what they change."""
    groups = []
    for node in ast.walk(function):
        for target in node.targets if isinstance(node, ast.Assign) else ():
            for places in assigned(target, node.value):
                touched = [group for group in groups if group & places]
                groups = [group for group in groups if not group & places] + [places.union(*touched)]
    found = []
    for node in ast.walk(function):
        target, given = None, set()
        if isinstance(node, ast.AugAssign) and isinstance(node.op, (ast.Add, ast.BitOr)):
            target, given = place_text(node.target), may_be(node.value)
        elif isinstance(node, ast.Call) and isinstance(node.func, ast.Attribute) and node.func.attr in ("extend", "update"):
            target, given = place_text(node.func.value), set().union(*map(may_be, node.args))
        same = {target}.union(*(group for group in groups if target in group))
        if same & given:
            found.append(node.lineno)
    return found


class LanguageTest(unittest.TestCase):

    def test_files(self):
        found = [path for path in PACKAGE.rglob("*") if path.is_file() and "__pycache__" not in path.parts]
        self.assertEqual(sorted(found), FILES)
        self.assertLessEqual(len(FILES), 100)
        for path in FILES:
            self.assertRegex(path.name, "^([a-z][a-z0-9_]*|__init__).py$")
            self.assertTrue(path.stem == "__init__" or not hasattr(builtins, path.stem))

    def test_characters_and_lines(self):
        for path in FILES:
            text = path.read_text(encoding="ascii")
            self.assertRegex(text, "^[ -~\n]*$")
            lines = text.splitlines()
            self.assertLessEqual(len(lines), 399, path.name)
            self.assertLessEqual(max(len(line) for line in lines), 120, path.name)

    def test_no_warnings(self):
        for path in FILES:
            compile(path.read_text(encoding="ascii"), str(path), "exec", dont_inherit=True)

    def test_functions_are_small(self):
        for name, node in nodes(ast.FunctionDef):
            self.assertLessEqual(node.end_lineno - node.lineno + 1, 40, f"{name} {node.name}")
            self.assertEqual(node.decorator_list, [])
            self.assertIsNone(node.returns)
            plain_ones = node.args.args
            rest = (node.args.posonlyargs, node.args.kwonlyargs, node.args.defaults, node.args.vararg, node.args.kwarg)
            self.assertFalse(any(rest), node.name)
            self.assertFalse(any(part.annotation for part in plain_ones))
            self.assertIsNotNone(ast.get_docstring(node) or node.name == "__init__" or None, f"{name} {node.name}")

    def test_module_level(self):
        for path, tree in TREES.items():
            self.assertIsNotNone(ast.get_docstring(tree), path.name)
            functions = {node.name for node in tree.body if isinstance(node, ast.FunctionDef)}
            bound = []
            for place, node in enumerate(tree.body):
                if isinstance(node, ast.Assign):
                    self.assertTrue(len(node.targets) == 1 and isinstance(node.targets[0], ast.Name), path.name)
                    self.assertTrue(plain(node.value, functions), f"{path.name} {node.lineno}")
                    bound.append(node.targets[0].id)
                elif isinstance(node, ast.ImportFrom):
                    self.assertTrue(all(isinstance(one, ast.ImportFrom) for one in tree.body[1:place]), path.name)
                    bound.extend(alias.name for alias in node.names)
                elif isinstance(node, (ast.FunctionDef, ast.ClassDef)):
                    bound.append(node.name)
                else:
                    self.assertEqual(place, 0, f"{path.name} {node.lineno}")
            self.assertEqual(len(bound), len(set(bound)), path.name)

    def test_imports(self):
        leads = {}
        for path, tree in TREES.items():
            used = {node.id for node in ast.walk(tree) if isinstance(node, ast.Name)}
            for node in ast.walk(tree):
                self.assertNotIsInstance(node, ast.Import)
                if not isinstance(node, ast.ImportFrom):
                    continue
                self.assertEqual(node.level, 0)
                names = {alias.name for alias in node.names}
                self.assertTrue(all(alias.asname is None for alias in node.names))
                self.assertEqual(names - used, set(), path.name)
                if node.module in LIBRARY:
                    self.assertLessEqual(names, LIBRARY[node.module])
                    continue
                package, _, stem = node.module.partition(".")
                self.assertEqual(package, "interline")
                leads.setdefault(path.stem, set()).add(stem)
                defined = {one.name for one in TREES[PACKAGE / f"{stem}.py"].body
                           if isinstance(one, (ast.FunctionDef, ast.ClassDef))}
                defined |= {one.targets[0].id for one in TREES[PACKAGE / f"{stem}.py"].body
                            if isinstance(one, ast.Assign)}
                self.assertLessEqual(names, defined, path.name)
        self.has_no_circle(leads)

    def has_no_circle(self, leads):
        while leads:
            ready = [name for name in leads if not leads[name] & set(leads)]
            self.assertTrue(ready, f"import one another: {sorted(leads)}")
            leads = {name: leads[name] for name in leads if name not in ready}

    def test_statements_and_signs(self):
        for name, node in nodes(ast.stmt):
            self.assertIsInstance(node, STATEMENTS, f"{name} {node.lineno}")
        unwanted = (ast.Div, ast.Pow, ast.MatMult, ast.Yield, ast.YieldFrom, ast.Await, ast.GeneratorExp, ast.SetComp,
                    ast.Set, ast.NamedExpr, ast.Lambda, ast.Mod)
        self.assertEqual(nodes(unwanted), [])
        for name, node in nodes(ast.Constant):
            self.assertNotIsInstance(node.value, (float, complex, bytes))
        for name, node in nodes(ast.Compare):
            for sign, right in zip(node.ops, node.comparators):
                if isinstance(sign, (ast.Is, ast.IsNot)):
                    self.assertTrue(isinstance(right, ast.Constant), f"{name} {node.lineno}")

    def test_handlers_name_own_errors(self):
        own = {node.name for _, node in nodes(ast.ClassDef)} | {"KeyError"}
        for name, node in nodes(ast.ExceptHandler):
            self.assertIn(node.type.id, own, f"{name} {node.lineno}")
        for name, node in nodes(ast.Raise):
            self.assertTrue(isinstance(node.exc, ast.Call) and node.exc.func.id in own, f"{name} {node.lineno}")

    def test_names(self):
        for path, tree in TREES.items():
            taken = {node.name for node in tree.body if isinstance(node, ast.ClassDef)}
            taken |= {alias.name for node in tree.body if isinstance(node, ast.ImportFrom) for alias in node.names}
            for node in ast.walk(tree):
                if isinstance(node, ast.Name) and isinstance(node.ctx, ast.Store):
                    self.is_free(node.id, taken, path)
                elif isinstance(node, ast.arg):
                    self.is_free(node.arg, taken, path)
                elif isinstance(node, (ast.FunctionDef, ast.ClassDef)):
                    if node.name not in DOUBLE:
                        self.is_free(node.name, set(), path)
                elif isinstance(node, ast.Name) and isinstance(node.ctx, ast.Load):
                    self.assertNotEqual(node.id, "_", path.name)
                elif isinstance(node, ast.Attribute):
                    self.assertRegex(node.attr, "^_?[A-Za-z][A-Za-z0-9_]*$")
                    self.assertNotIn(node.attr, NOWHERE)

    def is_free(self, word, taken, path):
        where = f"{word} in {path.name}"
        self.assertRegex(word, "^(_|_?[A-Za-z][A-Za-z0-9_]*)$", where)
        self.assertFalse(hasattr(builtins, word), where)
        self.assertNotIn(word, NOWHERE | BARRED, where)
        self.assertNotIn(word, taken, where)

    def test_words(self):
        for path in FILES:
            text = path.read_text(encoding="ascii")
            for word in ("dataclass", "overload", "contextmanager", "_wall", "_WallAttr"):
                self.assertNotIn(word, text, path.name)
            for token in tokenize.generate_tokens(io.StringIO(text).readline):
                if token.type == tokenize.NAME:
                    self.assertNotIn(token.string, WORDS, f"{path.name} {token.start}")
                if token.type == tokenize.STRING and not token.string.startswith('"""'):
                    found = set(re.findall("[A-Za-z_]+", token.string)) & WORDS
                    self.assertLessEqual(found, {"type"}, path.name)
                    self.assertNotIn("%", token.string, path.name)
                    self.assertFalse(re.search(r"\\[^n\"'\\]", token.string), path.name)

    def test_calls_of_builtins(self):
        for path, tree in TREES.items():
            known = {node.name for node in tree.body if isinstance(node, (ast.FunctionDef, ast.ClassDef))}
            known |= {alias.name for node in tree.body if isinstance(node, ast.ImportFrom) for alias in node.names}
            for node in ast.walk(tree):
                if isinstance(node, ast.Call) and isinstance(node.func, ast.Name) and node.func.id not in known:
                    word = node.func.id
                    if word not in ("fault", "action"):
                        self.assertIn(word, BUILTINS, f"{path.name} {node.lineno}")
                    allowed = KEYWORDS.get(word, set())
                    self.assertLessEqual({part.arg for part in node.keywords}, allowed, f"{path.name} {node.lineno}")

    def test_methods(self):
        own = {part.name for _, node in nodes(ast.ClassDef) for part in node.body if isinstance(part, ast.FunctionDef)}
        given = {node.attr for _, node in nodes(ast.Attribute) if isinstance(node.ctx, ast.Store)}
        self.assertEqual(given & (ATTRIBUTES | METHODS), set())
        self.assertEqual(given & own, set())
        for name, node in nodes(ast.Call):
            if isinstance(node.func, ast.Attribute):
                self.assertIn(node.func.attr, own | METHODS, f"{name} {node.lineno}")
                self.assertEqual(node.keywords, [], f"{name} {node.lineno}")
        for name, node in nodes(ast.Attribute):
            if isinstance(node.ctx, ast.Load):
                self.assertIn(node.attr, own | METHODS | given, f"{name} {node.lineno}")

    def test_variables_of_comprehensions_in_others(self):
        for name, function in nodes(ast.FunctionDef):
            comprehensions = [node for node in ast.walk(function) if isinstance(node, (ast.ListComp, ast.DictComp))]
            own = {id(part) for node in comprehensions for part in ast.walk(node)}
            taken = {part.arg for part in function.args.args}
            taken |= {part.id for part in ast.walk(function)
                      if isinstance(part, ast.Name) and isinstance(part.ctx, ast.Store) and id(part) not in own}
            for outer in comprehensions:
                for inner in ast.walk(outer):
                    if inner is not outer and isinstance(inner, (ast.ListComp, ast.DictComp)):
                        targets = self.targets(inner)
                        self.assertEqual(targets & (taken | self.targets(outer)), set(), f"{name} {inner.lineno}")

    def targets(self, comprehension):
        return {part.id for one in comprehension.generators for part in ast.walk(one.target)
                if isinstance(part, ast.Name)} - {"_"}

    def test_iterated_at_once(self):
        held = {"zip", "enumerate", "reversed", "range", "items", "keys", "values"}
        for path, tree in TREES.items():
            for node in ast.walk(tree):
                if isinstance(node, (ast.Assign, ast.Return)) and isinstance(node.value, ast.Call):
                    word = node.value.func
                    name = word.id if isinstance(word, ast.Name) else word.attr
                    self.assertNotIn(name, held, f"{path.name} {node.lineno}")
                if isinstance(node, ast.Call) and isinstance(node.func, ast.Name) and node.func.id == "set":
                    self.assertIn(node.lineno, self.lines_of_len(tree), f"{path.name} {node.lineno}")

    def lines_of_len(self, tree):
        return {node.lineno for node in ast.walk(tree) if isinstance(node, ast.Call)
                and isinstance(node.func, ast.Name) and node.func.id in ("len", "sorted")
                and isinstance(node.args[0], ast.Call)}

    def test_nothing_is_changed_by_itself(self):
        for name, node in nodes(ast.FunctionDef):
            self.assertEqual(changed_by_itself(node), [], f"{name} {node.name}")

    def test_what_is_changed_by_itself(self):
        for rows in (("a += a",), ("a = b", "a += b"), ("a = b", "b += a"), ("a = b", "c = a", "b |= c"), ("a, b = c, d", "a += c"),
                     ("x, b = c[0]", "a = b", "a += b"), ("a = min(-b[0][0], b[-1][0])", "b[0][0] += a"), ("a.extend(a)",),
                     ("a = b.c", "a.update(b.c)"), ("a = b if c else d", "a += d"), ("a = b or c", "a += c")):
            for text in (rows, rows[::-1]):
                self.assertEqual(len(changed_by_itself(ast.parse("\n".join(text)))), 1, text)
        for rows in (("a = b", "a += c"), ("a = b + 1", "a += b"), ("a = b", "a = a + b"), ("a = list(b)", "a.extend(b)"),
                     ("a = b", "a += b * 2"), ("a, b = c, d", "a += d"), ("a = 0", "b = 0", "a += b"), ("a.b = c.b", "a.d += a.b")):
            self.assertEqual(changed_by_itself(ast.parse("\n".join(rows))), [], rows)

    def test_loops_do_not_change_what_they_visit(self):
        for name, node in nodes(ast.For):
            visited = {ast.unparse(part) for part in ast.walk(node.iter) if isinstance(part, (ast.Name, ast.Attribute))}
            for part in ast.walk(ast.Module(body=node.body, type_ignores=[])):
                if isinstance(part, ast.Call) and isinstance(part.func, ast.Attribute):
                    if part.func.attr in ("append", "extend", "insert", "pop", "remove", "clear", "update", "reverse"):
                        self.assertNotIn(ast.unparse(part.func.value), visited, f"{name} {part.lineno}")
                if isinstance(part, ast.Subscript) and isinstance(part.ctx, (ast.Store, ast.Del)):
                    self.assertNotIn(ast.unparse(part.value), visited, f"{name} {part.lineno}")


INTERFACE = {
    "errors": "InterlineError ArgumentError PaperError SaleError TooMany TextError NetError LogError CommandError",
    "words": "read_net write_net",
    "checks": "check",
    "calendar": "local_text local_time board",
    "journeys": "journeys front legs accept_legs reach",
    "courses": "courses actual",
    "broken": "broken free_seats",
    "fares": "construct price_table dear accept_price_table shares",
    "inventory": "sold over available group",
    "quotes": "quote accept_quote",
    "choosing": "choose accept_choice greatest_sales accept_sales",
    "sales": "replay history",
    "tickets": "Office reopen takings",
    "bags": "short forward bag_times accept_bag_times",
    "scans": "judge scan_plan",
    "mending": "ways least_mend accept_mend",
    "book": "guard accept_guard worst",
    "shifting": "least_shifts accept_shifts",
    "volunteers": "volunteers bid_table accept_bid_table",
    "aircraft": "deficits rotation accept_deficits least_tails refitted swaps swapped",
    "crews": "links least_duties accept_duties reserves",
    "gates": "stands least_gates gate_plan accept_gate_plan",
    "promises": "promise promises safest",
    "causes": "causes blame",
    "room": "room_for accept_room",
    "days": "play play_plan",
    "system": "Session",
    "slots": "least_slots accept_slots requests_at",
    "balance": "balanced accept_balanced boarded",
    "upkeep": "worn upkeep",
    "seating": "seat_table seated accept_seat_table",
    "holds": "actual_held cost_held least_holds",
    "values": "seat_values fair_shares weak_courses",
    "spares": "actual_with guard_with accept_guard_with least_spares accept_spares",
    "rosters": "turns least_rosters accept_rosters",
    "merging": "changed merge",
    "carriers": "statement balances group_table least_payments accept_group_table accept_payments",
    "papers": "write_answer read_answer is_answer",
    "tolerance": "tolerance accept_tolerance curve",
    "waves": "connections weak_connections busiest quietest",
}

METHODS_OF_CLASSES = {
    ("tickets", "Office"): "sell fly change refund mend ledger ticket names bookings log",
    ("system", "Session"): "load answer __len__ __iter__",
}


class InterfaceTest(unittest.TestCase):

    def test_names_are_defined_where_they_are_listed(self):
        for stem, words in INTERFACE.items():
            defined = {node.name for node in TREES[PACKAGE / f"{stem}.py"].body
                       if isinstance(node, (ast.FunctionDef, ast.ClassDef))}
            self.assertLessEqual(set(words.split()), defined, stem)

    def test_methods_are_defined_in_their_classes(self):
        for (stem, name), words in METHODS_OF_CLASSES.items():
            body = [node for node in TREES[PACKAGE / f"{stem}.py"].body
                    if isinstance(node, ast.ClassDef) and node.name == name][0].body
            self.assertLessEqual(set(words.split()), {node.name for node in body if isinstance(node, ast.FunctionDef)})


if __name__ == "__main__":
    unittest.main()
