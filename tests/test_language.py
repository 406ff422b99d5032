"""The rules of the language that the package is written in, as far as a text shows them, and its interface."""

import ast
import builtins
import importlib
import inspect
import pathlib
import unittest

FOLDER = pathlib.Path(__file__).resolve().parent.parent / "paperbest"
FILES = {path.stem: path.read_text(encoding="utf-8") for path in sorted(FOLDER.glob("*.py"))}
TREES = {name: ast.parse(text) for name, text in FILES.items()}

LIBRARY = {
    "math": {"gcd", "lcm", "isqrt", "comb", "perm", "factorial"},
    "heapq": {"heappush", "heappop", "heapify", "heapreplace", "heappushpop"},
    "itertools": {"product", "combinations", "permutations", "chain", "accumulate", "pairwise", "islice",
                  "zip_longest"},
    "collections": {"defaultdict"}}

CALLED = set((
    "len range enumerate zip min max sum abs sorted reversed int str bool bytes list tuple dict set frozenset "
    "isinstance ord repr any all divmod pow getattr hasattr setattr map iter next super").split())

METHODS = set((
    "append clear copy count endswith extend find get index insert isalnum isalpha isdigit islower isspace isupper "
    "items join keys ljust lower lstrip partition pop remove replace reverse rfind rjust rpartition rsplit rstrip "
    "setdefault split splitlines startswith strip update upper values zfill bit_length add discard").split())

ERRORS = {"Exception", "ValueError", "TypeError", "KeyError", "IndexError", "LookupError", "ZeroDivisionError",
          "ArithmeticError", "OverflowError", "RuntimeError", "NotImplementedError", "AttributeError",
          "StopIteration", "NotImplemented"}

# An interactive Python, and so a doctest, binds _ too.
BUILTINS = set(dir(builtins)) - {"_"}

BARRED_NODES = (
    ast.Global, ast.AsyncFunctionDef, ast.AsyncFor, ast.AsyncWith, ast.Await, ast.GeneratorExp, ast.Yield,
    ast.YieldFrom, ast.Import, ast.Div, ast.MatMult, ast.Set)

BARRED_WORDS = set((
    "type typing typing_extensions enum Enum IntEnum StrEnum Flag IntFlag Generic Protocol ABC ABCMeta namedtuple "
    "NamedTuple TypedDict TYPE_CHECKING abstractmethod register mro elements open input law version_info "
    "with_traceback add_note attrgetter breakpoint builtins compile copyright credits delattr dir eval exec exit gc "
    "globals help id importlib license locals methodcaller os quit type vars sys").split())

DUNDERS = {"__init__", "__eq__", "__repr__", "__str__", "__len__", "__enter__", "__exit__", "__call__", "__iter__"}

AT_ONCE = {"list", "tuple", "dict", "sorted", "sum", "any", "all", "enumerate", "zip", "min", "max", "len", "reversed"}

INTERFACE = {
    "errors": "TaskError InvalidTask InvalidText InvalidPoint InvalidBox InvalidPaper InvalidNumber Refused",
    "benches": "job_windows bench_draws starts_in_sequence least_bench_end",
    "numbers": "fraction_of whole is_fraction added taken timed parted is_less least_of greatest_of floor_of "
               "ceiling_of weighed",
    "rooms": "room_draws pieces_or_load running_needs sure_needs",
    "lexer": "marks_of",
    "rows": "slim_row tight_row row_of opposite_row sides_of row_follows parting_point",
    "steps": "place_beyond fitting_place holding_ends mend_place room_for step_along slopes_of",
    "sums": "summed check_multipliers multipliers_of joined_multipliers put_for",
    "tableau": "Tableau",
    "simplex": "keyed point_or_sum first_gain to_best most_steps cheapest_place repaired hold_best",
    "wishes": "is_wish sum_wish named_by normal_wishes",
    "tasks": "Task names_of box_of rows_of place_of goal_step with_wishes with_goal with_box normal_task are_same "
             "renamed turned moved",
    "duals": "with_cuts relaxed is_relaxed gap_of best_face in_turn",
    "lacks": "lack miss best_value",
    "points": "check_point check_box worth in_box keeps_wish broken keeps",
    "printer": "show_fraction show_task show_wish show_point",
    "counting": "count_kept count_work",
    "hours": "running load_between peak seats",
    "leaves": "leaf_holds draw_holds box_after tree_after",
    "moves": "pair_moves is_still descent",
    "nodes": "point_count most_nodes most_depth unwhole_places whole_point first_broken settled_wish split_place "
             "halving_place boxes_around reaches",
    "plain": "count_points points_in plain_points plain_best",
    "prices": "priced_draws exact_draws",
    "reader": "read_task completed read_wishes read_point",
    "cases": "opposite_cases",
    "commands": "read_command read_script",
    "crowds": "crowd_leaf crowd_point full_stretches crowd_box crowd_draws",
    "eithers": "open_sums either_left either_point sure_sum either_box either_draws",
    "ends": "telling row_draws sum_draws goal_draws",
    "papers": "Paper Best Nothing cut_row cut_rows split_box leaves_of",
    "rings": "next_places reached_places reaching_places ring_leaf round_leaf round_rests round_draws",
    "rounding": "free_ways rounded_by_signs nearest_point turns_of rounded_at threshold_points best_threshold",
    "showing": "shown is_shown",
    "answertexts": "show_answer read_answer",
    "cheapest": "cheapest_unlike is_cheapest",
    "checker": "is_answer first_fault tree_fault",
    "cuts": "fraction_parts cut_of depth_of half_cut half_cuts form_numbers rounded_sums",
    "tables": "lots_left table_left table_point table_box table_draws",
    "tours": "round_count round_answer round_shaves",
    "drawing": "wish_draws drawn rests rest_passes shaved",
    "lost": "value_point value_leaf lost_values",
    "reasons": "is_draw is_draws wishes_behind cuts_behind ends_behind needed_draws",
    "rounds": "rounds least_spot next_cut most_cuts by_cuts",
    "shorter": "shorter_answer",
    "near": "distance_between nearest_kept best_near",
    "tree": "TreeSearch search kept_points best_points",
    "guesses": "guess",
    "solver": "solve answer_size most_leaves is_paper better_point",
    "blame": "only_wishes without_wishes has_point is_to_blame shrunk_blame all_blames all_excuses least_meets "
             "cheapest_excuse reliefs",
    "listings": "Listing is_listing_for listed all_best above_worth next_best ranked",
    "live": "Live",
    "claims": "is_claim follow_claim same_claim worth_claim blame_claim",
    "runs": "Session run"}

CLASS_PARTS = {
    ("tableau", "Tableau"): "many places basis columns ends value point entry row_at exchange move put_end mark back "
                            "add_row",
    ("tree", "TreeSearch"): "step open_boxes left bound paper answer",
    ("live", "Live"): "present put strike reach aim undo changes answer",
    ("runs", "Session"): "present reply"}

PARAMETERS = {
    "summed": "task cuts box multipliers", "check_multipliers": "task cuts box value",
    "joined_multipliers": "one other many", "put_for": "multipliers key other", "marks_of": "text",
    "row_of": "coefficients sense bound", "is_wish": "value size", "Task": "unknowns wishes goal",
    "renamed": "task names", "turned": "task name", "moved": "task name amount", "with_box": "task box",
    "check_point": "task value", "keeps_wish": "wish point", "count_kept": "wish box", "count_work": "wish box",
    "show_wish": "names wish", "show_point": "task point", "Tableau": "rows box", "keyed": "tableau ends",
    "holding_ends": "tableau place side", "room_for": "tableau column sign", "slopes_of": "tableau coefficients",
    "to_best": "tableau goal", "cheapest_place": "tableau goal place side", "relaxed": "task cuts box",
    "is_relaxed": "task cuts box value", "gap_of": "task cuts box point multipliers",
    "best_face": "task cuts box multipliers", "in_turn": "task cuts box goals", "best_value": "task box point at",
    "bench_draws": "task k box", "room_draws": "task k box", "starts_in_sequence": "task k box sequence",
    "least_bench_end": "task k box", "pieces_or_load": "task k box", "running_needs": "task k point",
    "sure_needs": "task k box", "job_windows": "task k box",
    "running": "wish point moment", "load_between": "wish point first last", "peak": "wish point",
    "seats": "wish point", "leaf_holds": "task cuts box value worth", "draw_holds": "task cuts box value worth",
    "box_after": "box draw", "tree_after": "draws tree", "pair_moves": "box point", "is_still": "task box point",
    "descent": "task box point most", "point_count": "box", "most_nodes": "task", "most_depth": "task halving",
    "unwhole_places": "point", "whole_point": "point", "first_broken": "task point", "settled_wish": "task box",
    "split_place": "task box point", "halving_place": "box", "boxes_around": "box point", "reaches": "bound known",
    "count_points": "box", "points_in": "box", "plain_points": "task", "plain_best": "task",
    "priced_draws": "task cuts box worth", "exact_draws": "task cuts box", "read_task": "text", "completed": "text",
    "read_wishes": "names text", "read_point": "task text", "opposite_cases": "task wish",
    "read_command": "names text", "read_script": "text",
    "crowd_leaf": "task number box", "crowd_point": "task number box", "full_stretches": "task number box",
    "crowd_box": "task number box", "crowd_draws": "task number box", "open_sums": "task number box",
    "either_left": "task number box", "either_point": "task number box", "sure_sum": "task number box",
    "either_box": "task number box", "either_draws": "task number box", "telling": "row box at side",
    "row_draws": "key row box", "sum_draws": "task k box", "goal_draws": "task worth box",
    "Paper": "cuts tree", "Best": "point worth paper", "Nothing": "paper", "cut_row": "task cuts multipliers",
    "cut_rows": "task value", "split_box": "box at k", "leaves_of": "task tree",
    "next_places": "task number box place", "reached_places": "task number box place",
    "reaching_places": "task number box place", "ring_leaf": "task number box", "round_leaf": "task number box",
    "round_rests": "task number box", "round_draws": "task number box", "free_ways": "task",
    "rounded_by_signs": "task start", "nearest_point": "start", "turns_of": "task",
    "rounded_at": "start turns threshold", "threshold_points": "start turns", "best_threshold": "task start",
    "shown": "wish point", "is_shown": "wish point value", "show_answer": "task answer",
    "read_answer": "task text", "cheapest_unlike": "task number box", "is_cheapest": "task number box value",
    "is_answer": "task value", "first_fault": "task value", "tree_fault": "task cuts box tree least",
    "fraction_parts": "numbers", "cut_of": "task cuts numbers", "depth_of": "row spot",
    "half_cut": "task cuts spot some", "half_cuts": "task cuts spot", "form_numbers": "task cuts tableau form",
    "rounded_sums": "task cuts tableau", "lots_left": "task number box", "table_left": "task number box",
    "table_point": "task number box", "table_box": "task number box", "table_draws": "task number box",
    "round_count": "task number box", "round_answer": "task number box", "round_shaves": "task number box",
    "wish_draws": "task k box", "drawn": "task box passes cuts worth", "rests": "task box cuts worth",
    "rest_passes": "box", "shaved": "task box passes cuts worth", "value_point": "task number box place value",
    "value_leaf": "task number box place value", "lost_values": "task number box place",
    "is_draw": "task cuts box value worth", "is_draws": "task cuts box other value worth", "wishes_behind": "tree",
    "cuts_behind": "tree", "ends_behind": "task tree", "needed_draws": "task draws ends", "rounds": "task most",
    "least_spot": "task cuts", "next_cut": "task cuts", "most_cuts": "task", "by_cuts": "task most",
    "shorter_answer": "task answer", "distance_between": "one other", "nearest_kept": "task box hint most",
    "best_near": "task box hint most", "TreeSearch": "task cuts known deep halving passes",
    "search": "task cuts known deep halving passes", "kept_points": "task most", "best_points": "task most",
    "guess": "task box start reach", "solve": "task passes cutting guessing halving", "answer_size": "answer",
    "most_leaves": "task", "is_paper": "task value worth", "better_point": "task worth", "only_wishes": "task lot",
    "without_wishes": "task lot", "has_point": "task", "is_to_blame": "task lot", "shrunk_blame": "task lot",
    "all_blames": "task", "all_excuses": "task", "least_meets": "lots", "cheapest_excuse": "task costs",
    "reliefs": "task", "Listing": "points worth paper", "is_listing_for": "task value", "listed": "task worth most",
    "all_best": "task most", "above_worth": "task worth", "next_best": "task worth", "ranked": "task many",
    "Live": "task", "is_claim": "task value", "follow_claim": "task wish", "same_claim": "task other",
    "worth_claim": "task least", "blame_claim": "task", "Session": "task", "run": "text"}


# What is passed by keyword only, with its default value, if it has one.
KEYWORDS = {
    "descent": {"most": 200}, "drawn": {"passes": ..., "cuts": (), "worth": None}, "rests": {"cuts": (), "worth": None},
    "shaved": {"passes": ..., "cuts": (), "worth": None}, "rounds": {"most": ...}, "by_cuts": {"most": None},
    "TreeSearch": {"cuts": (), "known": None, "deep": False, "halving": 40, "passes": 2},
    "search": {"cuts": (), "known": None, "deep": False, "halving": 40, "passes": 2}, "guess": {"reach": 0},
    "nearest_kept": {"most": ...}, "best_near": {"most": ...},
    "solve": {"passes": 2, "cutting": 2, "guessing": 20, "halving": 40}, "listed": {"most": 1000},
    "all_best": {"most": 1000}, "ranked": {"many": ...}}


def nodes():
    """All nodes of all files, with the name of the file and the nodes above them."""
    for name, tree in TREES.items():
        above = {child: node for node in ast.walk(tree) for child in ast.iter_child_nodes(node)}
        for node in ast.walk(tree):
            yield name, node, above


def functions():
    for name, node, above in nodes():
        if isinstance(node, ast.FunctionDef):
            yield name, node, above


def is_call(node, names):
    return isinstance(node, ast.Call) and isinstance(node.func, ast.Name) and node.func.id in names


OWN_METHODS = {node.name for _, node, above in functions() if isinstance(above[node], ast.ClassDef)}
OWN_CLASSES = {node.name for _, node, _ in nodes() if isinstance(node, ast.ClassDef)}


class TextTest(unittest.TestCase):
    def test_files(self):
        self.assertTrue(all(path.suffix == ".py" for path in FOLDER.iterdir() if path.name != "__pycache__"))
        self.assertIn("__init__", FILES)
        self.assertLessEqual(len(FILES), 100)
        for name, text in FILES.items():
            self.assertEqual(name, name.lower())
            self.assertTrue(name not in BUILTINS or name == "__init__", name)
            self.assertTrue(all(sign == "\n" or " " <= sign <= "~" for sign in text), name)
            lines = text.split("\n")
            self.assertLessEqual(len(lines), 399, name)
            for number, line in enumerate(lines):
                self.assertLessEqual(len(line), 120, (name, number + 1))
                self.assertEqual(line, line.rstrip(), (name, number + 1))
            for word in ("dataclass", "overload", "contextmanager", "_wall"):
                self.assertNotIn(word, text, name)

    def test_functions(self):
        for name, node, _ in functions():
            self.assertLessEqual(node.end_lineno - node.lineno + 1, 40, (name, node.name))
            for decorator in node.decorator_list:
                self.assertEqual(getattr(decorator, "id", None), "property", (name, node.name))
            self.assertIsNone(node.returns)

    def test_top_level(self):
        for name, tree in TREES.items():
            for at, node in enumerate(tree.body):
                kinds = (ast.ImportFrom, ast.FunctionDef, ast.ClassDef, ast.Assign)
                docstring = at == 0 and isinstance(node, ast.Expr) and isinstance(node.value, ast.Constant)
                self.assertTrue(docstring or isinstance(node, kinds), (name, node.lineno))
                if isinstance(node, ast.Assign):
                    self.assertEqual([type(target) for target in node.targets], [ast.Name], (name, node.lineno))
                    above = {part.name for part in tree.body[:at] if isinstance(part, ast.FunctionDef)}
                    for part in ast.walk(node.value):
                        self.assertNotIsInstance(part, (ast.Call, ast.BinOp, ast.ListComp), (name, node.lineno))
                        # A table has functions of its own file, defined above it.
                        self.assertIn(getattr(part, "id", None), above | {None}, (name, node.lineno))


class NamesTest(unittest.TestCase):
    def test_imports(self):
        for name, node, above in nodes():
            if not isinstance(node, ast.ImportFrom):
                continue
            self.assertIsInstance(above[node], ast.Module)
            self.assertEqual(node.level, 0)
            for item in node.names:
                self.assertIsNone(item.asname)
                if node.module in LIBRARY:
                    self.assertIn(item.name, LIBRARY[node.module])
                    continue
                package, _, module = node.module.partition(".")
                self.assertEqual(package, "paperbest", (name, node.module))
                defined = {part.name for part in TREES[module].body if hasattr(part, "name")}
                defined |= {part.targets[0].id for part in TREES[module].body if isinstance(part, ast.Assign)}
                self.assertIn(item.name, defined, (name, node.module))
                used = [part.id for part in ast.walk(TREES[name]) if isinstance(part, ast.Name)]
                self.assertIn(item.name, used, (name, node.module))

    def test_no_circles(self):
        imports = {name: {node.module.partition(".")[2] for node in tree.body if isinstance(node, ast.ImportFrom)
                          and node.module.startswith("paperbest.")} for name, tree in TREES.items()}
        done = set()
        while len(done) < len(imports):
            ready = {name for name in imports if name not in done and imports[name] <= done}
            self.assertTrue(ready, imports)
            done |= ready

    def test_names_that_are_bound(self):
        for name, tree in TREES.items():
            imported = {item.name for node in tree.body if isinstance(node, ast.ImportFrom) for item in node.names}
            classes = {node.name for node in tree.body if isinstance(node, ast.ClassDef)}
            top = [part.name for part in tree.body if hasattr(part, "name")] + sorted(imported)
            self.assertEqual(len(top), len(set(top)), name)
            bound = set()
            for node in ast.walk(tree):
                if isinstance(node, ast.Name) and not isinstance(node.ctx, ast.Load):
                    bound.add(node.id)
                if isinstance(node, ast.arg):
                    bound.add(node.arg)
                if isinstance(node, ast.FunctionDef) and node.name not in OWN_METHODS:
                    bound.add(node.name)
            self.assertEqual(bound & (imported | classes), set(), name)
            self.assertEqual(bound & BUILTINS, set(), name)
            for item in bound:
                self.assertFalse(item.startswith("__"), (name, item))
                self.assertTrue(item == "_" or item.strip("_")[:1].isalpha(), (name, item))

    def test_barred_words(self):
        for name, node, _ in nodes():
            words = [getattr(node, part, None) for part in ("id", "name", "arg", "attr")]
            for word in words:
                self.assertNotIn(word, BARRED_WORDS, (name, getattr(node, "lineno", None)))

    def test_names_in_inner_comprehensions(self):
        kinds = (ast.ListComp, ast.SetComp, ast.DictComp)
        for name, node, above in nodes():
            if not isinstance(node, kinds):
                continue
            around, outer = above[node], []
            while not isinstance(around, (ast.FunctionDef, ast.Module)):
                outer.extend([around] if isinstance(around, kinds) else [])
                around = above[around]
            if not outer or isinstance(around, ast.Module):
                continue
            inner = {part.id for comp in node.generators for part in ast.walk(comp.target) if isinstance(part, ast.Name)}
            bound = {part.arg for part in ast.walk(around) if isinstance(part, ast.arg)}
            for part in ast.walk(around):
                if isinstance(part, ast.Name) and isinstance(part.ctx, ast.Store):
                    holders, at = [], part
                    while at is not around:
                        holders.append(at)
                        at = above[at]
                    if node not in holders:
                        bound.add(part.id)
            self.assertEqual(inner & bound - {"_"}, set(), (name, node.lineno))

    def test_underscore_is_never_read(self):
        for name, node, _ in nodes():
            if isinstance(node, ast.Name) and node.id == "_":
                self.assertIsInstance(node.ctx, ast.Store, (name, node.lineno))


class CodeTest(unittest.TestCase):
    def test_barred_nodes(self):
        for name, node, _ in nodes():
            self.assertNotIsInstance(node, BARRED_NODES, (name, getattr(node, "lineno", None)))
            if isinstance(node, ast.Constant):
                self.assertNotIsInstance(node.value, (float, complex), (name, node.lineno))

    def test_strings(self):
        for name, node, above in nodes():
            if isinstance(node, ast.Constant) and isinstance(node.value, str):
                self.assertNotIn("%", node.value, (name, node.lineno))
                self.assertFalse(node.value.startswith("__"), (name, node.lineno))
            if isinstance(node, ast.FormattedValue):
                self.assertEqual(node.conversion, -1)
                self.assertIsNone(node.format_spec)
                for part in ast.walk(node.value):
                    self.assertFalse(isinstance(part, ast.Constant) and isinstance(part.value, (str, bytes)))

    def test_powers(self):
        for name, node, _ in nodes():
            if isinstance(node, ast.BinOp) and isinstance(node.op, ast.Pow):
                self.assertIsInstance(node.right, ast.Constant, (name, node.lineno))

    def test_is(self):
        for name, node, _ in nodes():
            if isinstance(node, ast.Compare):
                for sign, other in zip(node.ops, node.comparators):
                    if isinstance(sign, (ast.Is, ast.IsNot)):
                        self.assertIsInstance(other, ast.Constant, (name, node.lineno))
                        self.assertIn(other.value, (None, True, False))

    def test_calls(self):
        defined = {node.name for _, node, _ in nodes() if isinstance(node, (ast.FunctionDef, ast.ClassDef))}
        library = {name for names in LIBRARY.values() for name in names}
        for name, node, above in nodes():
            if not isinstance(node, ast.Call):
                continue
            place = (name, node.lineno)
            if isinstance(node.func, ast.Name):
                word = node.func.id
                local = word in self.locals_around(node, above)
                self.assertTrue(word in defined | library | CALLED or local, place)
                if word in CALLED | library:
                    self.check_keywords(word, node, place)
                if word == "isinstance":
                    self.check_class(node.args[1], place)
            elif isinstance(node.func, ast.Attribute):
                self.assertIn(node.func.attr, METHODS | OWN_METHODS, place)
                if node.func.attr not in OWN_METHODS:
                    self.assertEqual(node.keywords, [], place)
            else:
                self.fail(place)

    def locals_around(self, node, above):
        while not isinstance(node, (ast.FunctionDef, ast.Module)):
            node = above[node]
        return {part.id for part in ast.walk(node) if isinstance(part, ast.Name) and isinstance(part.ctx, ast.Store)}

    def check_keywords(self, word, node, place):
        allowed = {"sorted": {"key", "reverse"}, "min": {"key", "default"}, "max": {"key", "default"},
                   "sum": {"start"}, "enumerate": {"start"}, "zip": {"strict"}}
        self.assertLessEqual({item.arg for item in node.keywords}, allowed.get(word, set()), place)
        if word not in ("zip", "max", "min"):
            self.assertFalse(any(isinstance(item, ast.Starred) for item in node.args), place)

    def check_class(self, node, place):
        items = node.elts if isinstance(node, ast.Tuple) else [node]
        for item in items:
            self.assertIn(item.id, OWN_CLASSES | {"int", "str", "bool", "bytes", "list", "tuple", "dict"}, place)

    def test_iterated_at_once(self):
        for name, node, above in nodes():
            views = isinstance(node, ast.Call) and isinstance(node.func, ast.Attribute) and node.func.attr in (
                "items", "keys", "values")
            if not views and not is_call(node, {"zip", "enumerate", "reversed", "range", "map"}):
                continue
            parent = above[node]
            at_once = (isinstance(parent, (ast.For, ast.comprehension)) and parent.iter is node) or (
                is_call(parent, AT_ONCE) and parent.args[0] is node)
            compared = is_call(node, {"range"}) and isinstance(parent, ast.Compare)
            self.assertTrue(at_once or compared, (name, node.lineno))

    def test_sets(self):
        for name, node, above in nodes():
            if is_call(node, {"set"}) or isinstance(node, ast.SetComp):
                parent = above[node]
                self.assertTrue(is_call(parent, {"sorted", "len"}) and not parent.keywords, (name, node.lineno))

    def test_errors(self):
        for name, node, _ in nodes():
            if isinstance(node, ast.Raise):
                self.assertTrue(isinstance(node.exc, ast.Call) and isinstance(node.exc.func, ast.Name),
                                (name, node.lineno))
            if isinstance(node, ast.ExceptHandler):
                for item in node.type.elts if isinstance(node.type, ast.Tuple) else [node.type]:
                    self.assertIsInstance(item, ast.Name, (name, node.lineno))
                    self.assertNotIn(item.id, ERRORS - {"KeyError", "ZeroDivisionError"}, (name, node.lineno))

    def test_loops_do_not_change_what_they_go_over(self):
        changing = {"append", "clear", "extend", "insert", "pop", "remove", "reverse", "setdefault", "update"}
        for name, node, _ in nodes():
            if not isinstance(node, ast.For):
                continue
            over = {ast.unparse(part) for part in ast.walk(node.iter) if isinstance(part, (ast.Name, ast.Attribute))}
            if is_call(node.iter, {"sorted", "list", "range"}):
                continue
            for part in ast.walk(node):
                if isinstance(part, ast.Call) and isinstance(part.func, ast.Attribute) and part.func.attr in changing:
                    self.assertNotIn(ast.unparse(part.func.value), over, (name, part.lineno))
                if isinstance(part, ast.Subscript) and not isinstance(part.ctx, ast.Load):
                    self.assertNotIn(ast.unparse(part.value), over, (name, part.lineno))

    def test_classes(self):
        for name, node, above in nodes():
            if not isinstance(node, ast.ClassDef):
                continue
            self.assertIsInstance(above[node], ast.Module)
            self.assertEqual(node.decorator_list + node.keywords, [])
            for part in node.body:
                self.assertIsInstance(part, (ast.FunctionDef, ast.Expr, ast.Pass), (name, node.name))
                if isinstance(part, ast.FunctionDef) and part.name.startswith("__"):
                    self.assertIn(part.name, DUNDERS, (name, node.name))
            methods = {part.name for part in node.body if isinstance(part, ast.FunctionDef)}
            attributes = {part.attr for part in ast.walk(node) if isinstance(part, ast.Attribute)
                          and isinstance(part.ctx, ast.Store)}
            self.assertEqual(methods & attributes, set(), (name, node.name))

    def test_names_of_attributes(self):
        barred = set(("items keys values pop update append clear extend insert remove reverse setdefault sort args encode "
                      "decode hex fromhex format format_map mro").split())
        assigned = {node.attr for _, node, _ in nodes() if isinstance(node, ast.Attribute) and isinstance(node.ctx, ast.Store)}
        self.assertEqual(assigned & barred, set())
        properties = {node.name for _, node, _ in functions() if node.decorator_list}
        self.assertEqual(assigned & properties, set())
        self.assertEqual(OWN_METHODS & (METHODS | barred), set())
        for _, node, _ in nodes():
            if isinstance(node, ast.Attribute) and isinstance(node.ctx, ast.Load):
                self.assertIn(node.attr, assigned | properties | OWN_METHODS | METHODS)

    def test_combinations(self):
        for name, node, above in nodes():
            if is_call(node, LIBRARY["itertools"]):
                parent = above[node]
                self.assertTrue(isinstance(parent, (ast.For, ast.comprehension)) and parent.iter is node, (name, node.lineno))
                self.assertTrue(is_call(node.args[0], {"list"}), (name, node.lineno))


class InterfaceTest(unittest.TestCase):
    def test_names_are_defined_where_they_are_listed(self):
        for module, words in INTERFACE.items():
            defined = {node.name for node in TREES[module].body if isinstance(node, (ast.FunctionDef, ast.ClassDef))}
            self.assertLessEqual(set(words.split()), defined, module)
            for word in words.split():
                self.assertTrue(hasattr(importlib.import_module("paperbest." + module), word))

    def test_parts_of_classes(self):
        for (module, word), parts in CLASS_PARTS.items():
            node = next(node for node in TREES[module].body if getattr(node, "name", None) == word)
            methods = {part.name for part in node.body if isinstance(part, ast.FunctionDef)}
            self.assertLessEqual(set(parts.split()), methods)
            properties = {part.name for part in node.body if getattr(part, "decorator_list", None)}
            wanted = {"many", "places", "basis", "columns"} if word == "Tableau" else set()
            self.assertEqual(properties, wanted)

    def test_parameters(self):
        for module, words in INTERFACE.items():
            for word in words.split():
                if word in PARAMETERS:
                    value = getattr(importlib.import_module("paperbest." + module), word)
                    self.assertEqual(" ".join(inspect.signature(value).parameters), PARAMETERS[word], word)

    def test_keywords(self):
        for module, words in INTERFACE.items():
            for word in words.split():
                value = getattr(importlib.import_module("paperbest." + module), word)
                if not inspect.isclass(value) or word == "TreeSearch":
                    told = {part.name: ... if part.default is part.empty else part.default
                            for part in inspect.signature(value).parameters.values() if part.kind == part.KEYWORD_ONLY}
                    self.assertEqual(told, KEYWORDS.get(word, {}), word)


if __name__ == "__main__":
    unittest.main()
