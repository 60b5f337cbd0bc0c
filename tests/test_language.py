"""Whether the package keeps to its subset of Python, as far as a short look can tell."""

import ast
import builtins
import os
import re
import unittest

FOLDER = os.path.join(os.path.dirname(os.path.dirname(os.path.abspath(__file__))), "gapstairs")

# The modules in the order in which each may import only from those ahead of it, with what they have to define.
INTERFACE = {
    "errors": "GapError",
    "bodies": "is_body is_corner holds",
    "stairs": "is_stairs staircase held held_whole joined met inside notches barred witness counted flipped moved",
    "webs": "Web link between closed way_table is_way_table raised unlinked",
    "cuts": "across cut_table is_cut_table are_papers needless trimmed",
    "trees": "pieces bonds far is_forest forest_web weight telling_forest is_telling_forest short_forest is_short_forest",
    "drawings": "is_block Drawing put taken shifted scaled flipped_drawing",
    "grounds": "is_cell Ground ground_of ground_blocks drawing_of same_ground hidden kept",
    "covers": "fits_ground cover_stairs cover_boxes are_cover_boxes cover_bars are_cover_bars are_cover_papers filled",
    "fits": "is_spot barred_box barring fits",
    "ways": "is_clear is_way straightened turned_way joined_ways",
    "chambers": "same_chamber way_between chambers is_outdoors first_spot closed_chambers clusters signed_lots",
    "sweeps": "swept unswept",
    "nears": "gap near near_pairs near_from",
    "marks": "heart meeting mark",
    "rings": "is_ring ring_from parity parting_ring is_parting",
    "sides": "sides are_sides sides_along gone_round",
    "spans": "vector span showing is_showing",
    "nests": "doorstep around nest",
    "loops": "loop_round is_loop_round loop_bar is_loop_bar",
    "rooms": "room stairs_of_way",
    "gaps": "gap_grid top grid_bodies",
    "passages": "stairs_between stairs_out stairs_web",
    "climbs": "climb_table is_climb_table",
    "bars": "is_bar bar_table is_bar_table are_both",
    "detours": "loop_stairs",
    "drawn": "drawn",
    "lanes": "lines is_lane on_lane crossing lanes",
    "moves": "fewest_moves short_way heights are_heights",
    "movestairs": "move_stairs move_row short_table height_table is_short_table is_height_table are_move_papers",
    "sheets": "shortest_ring fewest_around sheet_heights are_sheet_heights",
    "ringstairs": "ring_stairs ring_row ring_table is_ring_table sheet_table is_sheet_table",
    "removals": "is_enough need_table is_need_table fewest_taken least_lots",
    "takestairs": "take_stairs take_row lot_table is_lot_table need_tables are_need_tables trade_stairs binding",
    "touching": "touching touched gone slid",
    "rims": "rim rim_turn",
    "cells": "fine_cells fine_cell place named",
    "programs": "Program flipped_program circular inlined unlooped escape_program",
    "runs": "run trail ledger is_ledger",
    "tables": "run_table parting_body alike_runs sure_stairs",
    "progtexts": "program_text read_program",
    "machines": "is_case behind feel feels stands machine is_machine least_machine",
    "partings": "parting are_alike likeness is_likeness kinds kinds_within",
    "manykinds": "kinds_of_all",
    "doubts": "first_doubts answers is_aim is_done is_plan most_moves is_closed are_ranks shown",
    "plans": "plan least_moves closed_table ranks least_senses program_of",
    "sorting": "sorting_cases",
    "floors": "House is_place house_room",
    "lifts": "stations house_web house_stairs itineraries is_itinerary are_itineraries fences is_fence are_fences "
             "are_house_papers",
    "forms": "Form end_size still load_form form_parting least_loads repeated rounds endless rest",
    "journeys": "is_journey journey_form stopped",
    "books": "Book row_form reached rows_reached is_closed_table able able_papers are_able_papers",
    "seasons": "lives passage is_passage tide is_tide stairs_through through_table tide_table are_season_papers",
    "slides": "displaced slide_calendar stairs_riding stairs_always stairs_once",
    "records": "record agrees agreeing bound base sure doubtful",
    "rebuilding": "keeps breach rebuilding is_rebuilding moat is_moat",
    "yard": "Yard",
    "deskwords": "stairs_text read_stairs deed_text read_deed",
    "desk": "Desk",
    "yardtexts": "yard_text read_yard",
}
METHODS = {
    "Web": "__init__ __eq__", "Drawing": "__init__ __eq__ __len__ __contains__",
    "Ground": "__init__ __eq__ __contains__ __or__ __and__ __sub__", "Program": "__init__ __eq__ __len__ __contains__",
    "House": "__init__ __eq__", "Form": "__init__ __eq__ __mul__ __rmul__", "Book": "__init__ __eq__",
    "Yard": "__init__ __eq__ __len__ name drop put take slide promise release note attempt undo redo log drawing names "
            "promises notes calendar stairs_of sure lived plan changed",
    "Desk": "__init__ say",
}
LIBRARY = {"itertools": {"combinations"}}
CALLED = set("""len range enumerate zip min max sum abs sorted reversed int str bool list tuple dict set isinstance
ord repr any all divmod super""".split())
METHODS_OF_VALUES = set("""append clear copy count endswith extend find get index insert items join keys pop remove
replace reverse setdefault split startswith strip update values bit_length""".split())
METHODS_OF_YARDS = set("undo redo log calendar stairs_of sure lived changed".split())
CHANGING = {"append", "clear", "extend", "insert", "pop", "remove", "reverse", "setdefault", "update"}
VIEWS = {"zip", "enumerate", "reversed", "range", "items", "keys", "values", "combinations"}
TAKING = {"list", "tuple", "dict", "sorted", "sum", "enumerate", "zip", "min", "max"}
BARRED_WORDS = set("""type typing typing_extensions enum Enum IntEnum StrEnum Flag IntFlag Generic Protocol ABC ABCMeta
namedtuple NamedTuple TypedDict TYPE_CHECKING abstractmethod dataclass overload contextmanager""".split())
BARRED_NAMES = set("register mro elements open input law version_info with_traceback add_note".split())
FORBIDDEN = (
    ast.GeneratorExp, ast.SetComp, ast.Set, ast.Yield, ast.YieldFrom, ast.Global, ast.Nonlocal, ast.With,
    ast.AsyncFunctionDef, ast.Await, ast.NamedExpr, ast.Starred, ast.Pow, ast.Div, ast.AnnAssign, ast.Delete, ast.Match,
)


def called_name(node):
    if not isinstance(node, ast.Call):
        return None
    return node.func.id if isinstance(node.func, ast.Name) else getattr(node.func, "attr", None)


def is_plain(node):
    if isinstance(node, ast.UnaryOp):
        return isinstance(node.op, ast.USub) and is_plain(node.operand)
    if isinstance(node, (ast.Tuple, ast.List)):
        return all(is_plain(item) for item in node.elts)
    if isinstance(node, ast.Dict):
        return all(isinstance(item, ast.Constant) for item in node.keys + node.values)
    return isinstance(node, ast.Constant) and type(node.value) is not float


class File:
    def __init__(self, name):
        self.name = name
        with open(os.path.join(FOLDER, name + ".py"), encoding="ascii") as f:
            self.text = f.read()
        self.tree = ast.parse(self.text)
        self.nodes = list(ast.walk(self.tree))
        self.parent = {child: node for node in self.nodes for child in ast.iter_child_nodes(node)}
        self.imports = [node for node in self.tree.body if isinstance(node, ast.ImportFrom)]
        self.imported = {alias.name for node in self.imports for alias in node.names}
        self.defined = {n.name for n in self.tree.body if isinstance(n, (ast.FunctionDef, ast.ClassDef))}
        self.classes = {n.name for n in self.tree.body if isinstance(n, ast.ClassDef)}
        functions = [n for n in self.nodes if isinstance(n, ast.FunctionDef)]
        self.parameters = {arg.arg for n in functions for arg in n.args.args}
        self.values = {t.id for n in self.tree.body if isinstance(n, ast.Assign) for t in n.targets}


FILES = {name[:-3]: File(name[:-3]) for name in sorted(os.listdir(FOLDER)) if name.endswith(".py")}


class Language(unittest.TestCase):
    def each(self, kind, look):
        for file in FILES.values():
            for node in file.nodes:
                if isinstance(node, kind):
                    with self.subTest(file=file.name, row=getattr(node, "lineno", 0)):
                        look(file, node)

    def test_files(self):
        names = [name for name in os.listdir(FOLDER) if name != "__pycache__"]
        self.assertEqual(sorted(names), sorted(name + ".py" for name in FILES))
        for file in FILES.values():
            rows = file.text.split("\n")
            self.assertLessEqual(len(rows), 400, file.name)
            for row in rows:
                self.assertTrue(len(row) <= 120 and all(" " <= sign <= "~" for sign in row), row)
                self.assertFalse(row.endswith(" "), row)

    def test_interface_is_defined_where_it_is_listed(self):
        for name, listed in INTERFACE.items():
            self.assertLessEqual(set(listed.split()), FILES[name].defined, name)
        for name, listed in METHODS.items():
            node, = [n for f in FILES.values() for n in f.tree.body if isinstance(n, ast.ClassDef) and n.name == name]
            self.assertEqual([n.name for n in node.body if isinstance(n, ast.FunctionDef)], listed.split())

    def test_imports(self):
        order = list(INTERFACE)
        reached = {name: set() for name in FILES}
        for file in FILES.values():
            for node in file.imports:
                if node.module in LIBRARY:
                    self.assertLessEqual({alias.name for alias in node.names}, LIBRARY[node.module])
                    continue
                self.assertTrue(node.module.startswith("gapstairs.") and node.level == 0, file.name)
                source = node.module[len("gapstairs."):]
                reached[file.name].add(source)
                for alias in node.names:
                    self.assertIsNone(alias.asname)
                    self.assertIn(alias.name, FILES[source].defined | FILES[source].values, file.name)
                if file.name in order and source in order:
                    self.assertLess(order.index(source), order.index(file.name), file.name)
        for _ in FILES:
            reached = {name: ones.union(*[reached[one] for one in ones]) for name, ones in reached.items()}
        for name, ones in reached.items():
            self.assertNotIn(name, ones)

    def test_nothing_is_imported_or_defined_in_vain(self):
        everywhere = " ".join(file.text for file in FILES.values())
        interface = {name for listed in INTERFACE.values() for name in listed.split()} | FILES["errors"].defined
        for file in FILES.values():
            for name in file.imported:
                self.assertGreater(len(re.findall(rf"\b{name}\b", file.text)), 1, (file.name, name))
            for name in (file.defined | file.values) - interface - {"ALL"}:
                self.assertGreater(len(re.findall(rf"\b{name}\b", everywhere)), 1, (file.name, name))

    def test_module_level(self):
        for file in FILES.values():
            for node in file.tree.body:
                if isinstance(node, ast.Assign):
                    self.assertTrue(len(node.targets) == 1 and isinstance(node.targets[0], ast.Name))
                    self.assertTrue(is_plain(node.value), (file.name, node.lineno))
                elif isinstance(node, ast.Expr):
                    self.assertTrue(isinstance(node.value, ast.Constant) and isinstance(node.value.value, str))
                else:
                    self.assertIsInstance(node, (ast.ImportFrom, ast.FunctionDef, ast.ClassDef))

    def test_functions(self):
        self.each(ast.FunctionDef, self.look_at_function)

    def look_at_function(self, file, node):
        self.assertLessEqual(node.end_lineno - node.lineno + 1, 40)
        self.assertEqual(node.decorator_list + node.args.kwonlyargs, [])
        # Senses alone may be left out, and they are the last parameter.
        defaults = [ast.unparse(value) for value in node.args.defaults]
        self.assertEqual(defaults, ["SENSES"] if node.args.args[-1:] and defaults else [])
        self.assertTrue(defaults == [] or node.args.args[-1].arg == "senses")
        self.assertIsInstance(file.parent[node], (ast.Module, ast.ClassDef))

    def test_what_is_not_used(self):
        self.each(FORBIDDEN, lambda file, node: self.fail(ast.dump(node)[:90]))
        self.each(ast.Constant, self.look_at_constant)

    def look_at_constant(self, file, node):
        self.assertNotIsInstance(node.value, float)
        if isinstance(node.value, str):
            self.assertNotIn("%", node.value)

    def test_names(self):
        self.each((ast.Name, ast.arg, ast.Attribute, ast.FunctionDef, ast.ClassDef), self.look_at_name)

    def look_at_name(self, file, node):
        name = getattr(node, "id", getattr(node, "arg", getattr(node, "attr", getattr(node, "name", None))))
        self.assertNotIn(name, BARRED_WORDS | BARRED_NAMES)
        bound = isinstance(node, ast.arg) or isinstance(getattr(node, "ctx", None), ast.Store)
        if bound and not isinstance(node, ast.Attribute):
            self.assertNotIn(name, dir(builtins))
            self.assertNotIn(name, file.imported | file.classes | file.defined)
            self.assertFalse(name.startswith("__"))
        if isinstance(node, ast.Attribute) and isinstance(node.ctx, ast.Store):
            self.assertIsInstance(node.value, ast.Name)
        if isinstance(node, ast.Name) and name == "_":
            self.assertIsInstance(node.ctx, ast.Store)
        if isinstance(node, ast.FunctionDef) and name.startswith("__"):
            self.assertIn(name, " ".join(METHODS.values()).split())

    def test_calls(self):
        self.each(ast.Call, self.look_at_call)

    def look_at_call(self, file, node):
        words = [word.arg for word in node.keywords]
        if isinstance(node.func, ast.Attribute):
            self.assertIn(node.func.attr, METHODS_OF_VALUES | METHODS_OF_YARDS | {"__init__"})
            self.assertEqual(words, [])
        elif node.func.id not in file.imported | file.defined | file.parameters:
            self.assertIn(node.func.id, CALLED)
            allowed = {"sorted": {"key", "reverse"}, "min": {"key", "default"}, "max": {"key", "default"}}
            self.assertLessEqual(set(words), allowed.get(node.func.id, set()))

    def test_views_are_iterated_at_once(self):
        self.each(ast.Call, self.look_at_view)

    def look_at_view(self, file, node):
        parent = file.parent[node]
        if called_name(node) == "set":
            self.assertIn(called_name(parent), ("sorted", "len"))
            self.assertEqual(parent.keywords, [])
        if called_name(node) not in VIEWS:
            return
        if isinstance(parent, ast.Call):
            # Of these only a range stands in reversed(..).
            allowed = {"combinations", "reversed"} if called_name(node) == "range" else set()
            self.assertIn(called_name(parent), TAKING | allowed)
            self.assertIn(node, parent.args)
        else:
            self.assertIsInstance(parent, (ast.For, ast.comprehension))
            self.assertIs(parent.iter, node)

    def test_loops_leave_alone_what_they_go_over(self):
        self.each(ast.For, self.look_at_loop)

    def look_at_loop(self, file, node):
        if called_name(node.iter) == "list":
            return
        names = {ast.unparse(part) for part in ast.walk(node.iter) if isinstance(part, (ast.Name, ast.Subscript))}
        for part in [part for row in node.body for part in ast.walk(row)]:
            if isinstance(part, ast.Call) and isinstance(part.func, ast.Attribute) and part.func.attr in CHANGING:
                self.assertNotIn(ast.unparse(part.func.value), names)
            if isinstance(part, ast.Subscript) and isinstance(part.ctx, ast.Store):
                self.assertNotIn(ast.unparse(part.value), names)

    def test_comparing_and_raising(self):
        self.each(ast.Compare, self.look_at_comparison)
        self.each(ast.Raise, self.look_at_raise)
        self.each(ast.Lambda, lambda file, node: self.assertEqual(len(node.args.args), 1))

    def look_at_comparison(self, file, node):
        for operator, right in zip(node.ops, node.comparators):
            if isinstance(operator, (ast.Is, ast.IsNot)):
                self.assertIsInstance(right, ast.Constant)

    def test_what_is_caught(self):
        self.each(ast.Try, self.look_at_try)

    def look_at_try(self, file, node):
        self.assertEqual(node.orelse + node.finalbody, [])
        for handler in node.handlers:
            self.assertIn(handler.type.id, FILES["errors"].classes)

    def test_no_name_is_a_method_and_an_attribute(self):
        classes = [n for file in FILES.values() for n in file.tree.body if isinstance(n, ast.ClassDef)]
        methods = {n.name for one in classes for n in one.body if isinstance(n, ast.FunctionDef)}
        stored = {n.attr for file in FILES.values() for n in file.nodes
                  if isinstance(n, ast.Attribute) and isinstance(n.ctx, ast.Store)}
        self.assertEqual(methods & stored, set())

    def look_at_raise(self, file, node):
        self.assertTrue(isinstance(node.exc, ast.Call) and node.exc.func.id in FILES["errors"].classes)
        self.assertEqual(node.exc.keywords, [])


if __name__ == "__main__":
    unittest.main()
