"""The rules of the language that can be seen from the text of the package's files."""

import ast
import builtins
import os
import re
import unittest

import plainlock

FOLDER = os.path.dirname(plainlock.__file__)
BUILTINS = set(
    "len range enumerate zip min max sum abs sorted reversed int str bool bytes list tuple dict set frozenset isinstance ord"
    " repr any all divmod pow Exception ValueError TypeError KeyError IndexError LookupError ZeroDivisionError".split())
LIBRARY = {
    "heapq": {"heappush", "heappop", "heapify", "heapreplace", "heappushpop"},
    "math": {"gcd", "lcm", "isqrt", "comb", "perm", "factorial"},
    "itertools": {"product", "combinations", "permutations"},
}
METHODS = set(
    "append clear copy count endswith extend find get index insert isalnum isalpha isdigit islower isspace isupper items join"
    " keys ljust lower lstrip partition pop remove replace reverse rfind rjust rpartition rsplit rstrip setdefault split"
    " splitlines startswith strip update upper values zfill bit_length add discard sort".split())
BARRED = set(dir(builtins)) | set(
    "mro elements open input law version_info with_traceback add_note register attrgetter breakpoint builtins compile"
    " copyright credits delattr dir eval exec exit gc globals help id importlib license locals methodcaller os quit vars"
    " sys super iter next map filter print getattr hasattr setattr chr float complex hash callable object format".split())
WORDS = (
    "type typing typing_extensions enum Enum IntEnum StrEnum Flag IntFlag Generic Protocol ABC ABCMeta namedtuple NamedTuple"
    " TypedDict TYPE_CHECKING abstractmethod").split()
STATEMENTS = (
    ast.Assign, ast.AugAssign, ast.If, ast.While, ast.For, ast.Return, ast.Break, ast.Continue, ast.Pass, ast.Raise,
    ast.Assert, ast.Delete, ast.Nonlocal, ast.Try, ast.Expr, ast.FunctionDef, ast.ClassDef, ast.ImportFrom)
NOT_LET = (
    ast.Global, ast.Import, ast.With, ast.Match, ast.Yield, ast.YieldFrom, ast.Await, ast.AsyncFunctionDef, ast.Div,
    ast.NamedExpr, ast.Starred, ast.AnnAssign, ast.Is, ast.IsNot, ast.SetComp, ast.Set)
DOUBLE = {"__init__"}


def files():
    """Pairs of the name and the text of each file of the package."""
    for name in sorted(os.listdir(FOLDER)):
        if name != "__pycache__":
            with open(os.path.join(FOLDER, name), encoding="utf-8") as told:
                yield name, told.read()


def without_comments(text):
    """text without comments and docstrings."""
    tree = ast.parse(text)
    for node in ast.walk(tree):
        body = getattr(node, "body", None)
        if isinstance(body, list) and body and isinstance(body[0], ast.Expr) and isinstance(body[0].value, ast.Constant):
            body[0] = ast.Pass()
    return ast.unparse(tree)


class Rules(unittest.TestCase):
    def each(self):
        for name, text in files():
            with self.subTest(file=name):
                yield name, text, ast.parse(text)

    def test_files(self):
        for name, text, tree in self.each():
            self.assertRegex(name, r"^[a-z_]+\.py$")
            self.assertRegex(text, r"\A[ -~\n]*\Z")
            self.assertLessEqual(len(text.splitlines()), 399)
            self.assertLessEqual(max(map(len, text.splitlines())), 120)
            self.assertTrue(text.endswith("\n"))
            self.assertIsNotNone(ast.get_docstring(tree))

    def test_functions_are_short(self):
        for _, _, tree in self.each():
            for node in ast.walk(tree):
                if isinstance(node, ast.FunctionDef):
                    self.assertLessEqual(node.end_lineno - node.lineno + 1, 40, node.name)
                    self.assertEqual(node.decorator_list, [])

    def test_imports(self):
        above = {}
        for name, _, tree in self.each():
            found = [node for node in ast.walk(tree) if isinstance(node, ast.ImportFrom)]
            for node in found:
                self.assertIn(node, tree.body)
                self.assertEqual(node.level, 0)
                words = {alias.name for alias in node.names}
                self.assertTrue(all(alias.asname is None for alias in node.names))
                if node.module in LIBRARY:
                    self.assertLessEqual(words, LIBRARY[node.module])
                else:
                    self.check_own(node.module, words)
                    above.setdefault(name[:-3], set()).add(node.module.split(".")[1])
        self.check_no_circle(above)

    def test_no_import_for_nothing(self):
        for _, _, tree in self.each():
            imported = {alias.name for node in tree.body if isinstance(node, ast.ImportFrom) for alias in node.names}
            self.assertLessEqual(imported, {node.id for node in ast.walk(tree) if isinstance(node, ast.Name)})

    def check_own(self, module, words):
        """Each word is defined in the very file that is named."""
        package, _, name = module.partition(".")
        self.assertEqual(package, "plainlock")
        self.assertLessEqual(words, bound_in(dict(files())[name + ".py"]))

    def check_no_circle(self, above):
        left = dict(above)
        while left:
            free = [name for name in left if not left[name] & set(left)]
            self.assertTrue(free, left)
            for name in free:
                del left[name]

    def test_module_level(self):
        for _, text, tree in self.each():
            allowed = (ast.Expr, ast.ImportFrom, ast.FunctionDef, ast.ClassDef, ast.Assign)
            self.assertTrue(all(isinstance(node, allowed) for node in tree.body))
            names = [name for node in tree.body for name in names_bound(node)]
            self.assertEqual(len(names), len(set(names)))

    def test_statements_and_signs(self):
        for _, _, tree in self.each():
            for node in ast.walk(tree):
                if isinstance(node, ast.stmt):
                    self.assertIsInstance(node, STATEMENTS, ast.dump(node)[:80])
                if isinstance(node, (ast.Is, ast.IsNot)):
                    continue
                self.assertNotIsInstance(node, NOT_LET)
                if isinstance(node, ast.Constant):
                    self.assertNotIsInstance(node.value, (float, complex))
                    if isinstance(node.value, str):
                        self.assertNotIn("%", node.value)
                if isinstance(node, ast.Compare) and isinstance(node.ops[0], (ast.Is, ast.IsNot)):
                    self.assertIsInstance(node.comparators[0], ast.Constant)
                if isinstance(node, ast.BinOp) and isinstance(node.op, ast.Pow):
                    self.assertIsInstance(node.right, ast.Constant)

    def test_names(self):
        for _, text, tree in self.each():
            known = bound_in(text) | BUILTINS | all_locals(tree)
            imported = {alias.name for node in tree.body if isinstance(node, ast.ImportFrom) for alias in node.names}
            classes = {node.name for node in tree.body if isinstance(node, ast.ClassDef)}
            for node in ast.walk(tree):
                for name in names_in(node):
                    self.assertRegex(name, r"^_?[A-Za-z][A-Za-z0-9_]*$|^_$|^__init__$")
                    self.assertNotIn(name, BARRED)
                    self.assertNotIn(name, BUILTINS)
                if isinstance(node, ast.FunctionDef):
                    self.assertFalse(node.name.startswith("__") and node.name not in DOUBLE)
                    self.assertFalse(set(local_names(node)) & (imported | classes), node.name)
                if isinstance(node, ast.Name) and isinstance(node.ctx, ast.Load):
                    self.assertIn(node.id, known | imported)

    def test_iterated_at_once(self):
        """What goes over something is iterated on the spot, or kept by a local variable."""
        takers = {"list", "tuple", "dict", "sorted", "sum", "any", "all", "enumerate", "zip", "min", "max"}
        for _, text, tree in self.each():
            parents = {part: node for node in ast.walk(tree) for part in ast.iter_child_nodes(node)}
            for node in ast.walk(tree):
                if not isinstance(node, ast.Call):
                    continue
                name = node.func.id if isinstance(node.func, ast.Name) else node.func.attr if isinstance(node.func, ast.Attribute) else None
                if name not in ("zip", "enumerate", "reversed", "range", "items", "keys", "values", "product", "combinations", "permutations"):
                    continue
                parent = parents[node]
                if isinstance(parent, (ast.For, ast.comprehension)) or (isinstance(parent, ast.Assign) and name not in ("product", "combinations")):
                    continue
                if isinstance(parent, ast.Call) and isinstance(parent.func, ast.Name) and parent.func.id in takers:
                    continue
                self.assertTrue(isinstance(parent, ast.Call) and isinstance(parent.func, ast.Name) and name in ("range", "items")
                                and parent.func.id in ("len", "reversed", "combinations", "permutations", "product"), ast.unparse(parent))

    def test_words(self):
        for _, text, _ in self.each():
            for word in re.findall(r"[A-Za-z_]+", without_comments(text)):
                self.assertNotIn(word, WORDS)
                self.assertNotRegex(word, "dataclass|overload|contextmanager|_wall|_WallAttr")

    def test_methods_of_values(self):
        own = {node.name for _, _, tree in self.each() for node in ast.walk(tree) if isinstance(node, ast.FunctionDef)}
        for _, _, tree in self.each():
            for node in ast.walk(tree):
                if isinstance(node, ast.Call) and isinstance(node.func, ast.Attribute):
                    self.assertIn(node.func.attr, METHODS | own)

    def test_classes(self):
        methods, attributes = {}, {}
        for _, _, tree in self.each():
            for node in tree.body:
                if isinstance(node, ast.ClassDef):
                    methods[node.name] = [part.name for part in node.body if isinstance(part, ast.FunctionDef)]
                    attributes[node.name] = {
                        part.attr for part in ast.walk(node) if isinstance(part, ast.Attribute) and isinstance(part.ctx, ast.Store)}
                    self.assertLessEqual(len(node.bases), 1)
        for name in methods:
            self.assertEqual(len(methods[name]), len(set(methods[name])))
            for other in attributes:
                self.assertFalse(set(methods[name]) & attributes[other], name)

    def test_attributes_have_no_name_of_a_value(self):
        barred = {name for kind in (str, int, bytes, list, dict, set, tuple) for name in dir(kind)} | {"format_map", "mro", "args", "sort"}
        barred -= set("count index title find get join lower upper split strip copy add".split())
        for _, _, tree in self.each():
            for node in ast.walk(tree):
                if isinstance(node, ast.Attribute) and isinstance(node.ctx, ast.Store):
                    self.assertNotIn(node.attr, barred)
                if isinstance(node, ast.ClassDef):
                    self.assertFalse({part.name for part in node.body if isinstance(part, ast.FunctionDef)} & (barred - DOUBLE))

    def test_interface_is_defined_in_its_file(self):
        told = dict(files())
        for word, names in INTERFACE.items():
            tree = ast.parse(told[word + ".py"])
            defined = {node.name: node for node in tree.body if isinstance(node, (ast.FunctionDef, ast.ClassDef))}
            for name in names.split():
                name, _, inside = name.partition(":")
                self.assertIn(name, defined)
                for method in inside.split(",") if inside else ():
                    self.assertIn(method, [part.name for part in defined[name].body if isinstance(part, ast.FunctionDef)])


INTERFACE = {
    "errors": "NoPlace BadText Broken CanNot TooMany Unfit",
    "fractions": "fraction is_fraction plus minus times over less least greatest sum_of",
    "sums": "is_lines is_answer is_sum put_together answer sum_against extremes greatest_of least_of",
    "rings": "is_web is_schedule is_chain is_ring length schedule ring farthest chain stretched drawn tied",
    "sheets": "is_sheet is_play lines_of web_of overlapping play no_way is_no_way greatest_between bound_for is_bound with_ties",
    "plans": "is_plan settings times_of setting changed scaled longest_belief shortest_keep can_hold same_but_times covers",
    "keepers": "asked let_go fallen free_from kept_for Keeper:take,fall,turn,record",
    "clients": "Library:twin,act,take,number,stands,last",
    "stores": "Store:twin,take,fall,turn,value,greatest",
    "runs": "is_events is_run first_broken sent telling merged Machine:play,run,row,record,twin",
    "lots": "is_roster is_ticket_run is_circle shared meets not_meeting had fewest_apart ticket_rows order_of circle_of"
            " circle_run better roster_for cover",
    "ways": "hows ways overlap sheet way_ends shut_sum widest open_pairs late_look open_run",
    "borders": "is_condition comes_to holds plan_at overlap_form right_where web_where stretches tree apart is_tree mend is_mend",
    "kinds": "is_table is_rules is_kind_run is_kind_list is_kind_loop needed kind_rows kind_list kind_loop kinds_right wrong_run",
    "plain": "is_telling misfit is_list barred told_by is_ahead is_thread is_knot list_of knot thread list_with",
    "laid": "by_number by_told goes_down is_quiet follows ranked run_of",
    "right": "reasons is_right is_within is_bad proof is_proof bad_run crossing must_ask",
    "programs": "is_program is_cast goes program_of stores_of end_of ends list_to stuck run_to",
    "views": "is_world is_log is_view web_of_log rests_on view_of has age",
    "promises": "slack keepers_with covered endings is_cut surely_with is_sure chains is_chains worst is_worst first_unsure",
    "bridge": "world_of log_of log_moments looks believed_by surely_at shut_keepers unsure_run is_unsure_run",
    "changes": "is_change is_run_of mix_web crossings late_run smooth_where joint",
    "judge": "is_claim is_book is_so paper is_paper_for is_paper_against follows_from first_gap cut_to",
    "texts": "fraction_text plan_text events_text world_text log_text fraction_in plan_in events_in world_in log_in",
    "desk": "reply replies Desk:plan,put,scale,undo,redo,depth,twin",
}


def names_bound(node):
    """The names that a statement at module level binds."""
    if isinstance(node, (ast.FunctionDef, ast.ClassDef)):
        return [node.name]
    if isinstance(node, ast.ImportFrom):
        return [alias.name for alias in node.names]
    if isinstance(node, ast.Assign):
        return [target.id for target in node.targets]
    return []


def bound_in(text):
    tree = ast.parse(text)
    return {name for node in tree.body if not isinstance(node, ast.ImportFrom) for name in names_bound(node)}


def local_names(node):
    """The parameters and local variables of a function."""
    told = [part.arg for part in node.args.args]
    return told + [part.id for part in ast.walk(node) if isinstance(part, ast.Name) and isinstance(part.ctx, ast.Store)]


def all_locals(tree):
    caught = {node.name for node in ast.walk(tree) if isinstance(node, ast.ExceptHandler)}
    return caught | {name for node in ast.walk(tree) if isinstance(node, ast.FunctionDef) for name in local_names(node)}


def names_in(node):
    """The names that a node gives to something."""
    if isinstance(node, (ast.FunctionDef, ast.ClassDef)):
        return [node.name]
    if isinstance(node, ast.arg):
        return [node.arg]
    if isinstance(node, ast.Name) and isinstance(node.ctx, ast.Store):
        return [node.id]
    return []


if __name__ == "__main__":
    unittest.main()
