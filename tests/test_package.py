"""The package as a whole: its files, its interface, its size, and the examples of README.md."""

import ast
import builtins
import doctest
import unittest
from pathlib import Path

TOP = Path(__file__).resolve().parent.parent
PACKAGE = TOP / "boxeffects"

INTERFACE = {
    "kinds": "is_letter(value) is_kind(value) is_step(kind,value) is_row(kind,value) is_contents(kind,value) "
             "size_of(kind,contents) under_head(contents,place) new_letter(letters)",
    "boxes": "left_by_row(kind,row,contents) failing_step(kind,row,contents) course_of(kind,row,contents)",
    "stacks": "stack_form(row) stack_then(one,other) is_stack_form(value) stack_works(form,contents) "
              "stack_left(form,contents) stack_partners(row) stack_clash(row) shows_stack_clash(row,value)",
    "queues": "queue_form(row) queue_then(one,other) is_queue_form(value) normal_least(u,v,d) "
              "queue_works(form,contents) queue_left(form,contents) queue_shorts(form) bears_length(row,length) "
              "queue_clash(row,length) shows_queue_clash(row,length,value) queue_source(row,length,number)",
    "queuepowers": "power_least(form,times) power_works(form,times,contents) power_length(form,times,contents) "
                   "power_letter(form,times,contents,index) power_left(form,times,contents) "
                   "powers_alike(one,times,other,more) most_times(form,contents) endless_contents(form,length)",
    "rings": "ring_form(kind,row) is_ring_form(kind,value) ring_then(kind,one,other) ring_works(kind,form,contents) "
             "ring_left(kind,form,contents) walk_of(row) is_walk(value) walk_then(one,other) ring_by_walk(kind,walk) "
             "row_by_walk(walk) spilt_by(kind,row,length) least_ring(row,length)",
    "tapes": "tape_form(row) is_tape_form(value) tape_then(one,other) tape_works(form,contents) "
             "tape_left(form,contents) tape_known(form) tape_needs(form,wanted) tapes_meet(one,other) "
             "tapes_agree(one,other) tape_clash(row) accepts_clash(row,paper)",
    "heaps": "heap_form(row) heap_then(one,other) is_heap_form(value) heap_works(form,contents) "
             "heap_left(form,contents) left_many(form,contents) left_kth(form,contents,place) taken_by(form,contents) "
             "count_behind(form,t,many) sure_numbers(form) risked_numbers(form) told_heap_row(form) "
             "least_road(contents,other)",
    "gauges": "gauge_form(kind,row) gauge_then(kind,one,other) is_gauge_form(kind,value) "
              "gauge_works(kind,form,contents) gauge_left(kind,form,contents) gauge_origin(kind,form,number) "
              "gauge_stops(kind,row,contents) gauge_depth(kind,row)",
    "tables": "table_form(row) table_then(one,other) table_common(one,other) can_change_places(one,other) "
              "is_table_form(value) table_works(form,contents) table_left(form,contents) table_row(form)",
    "forms": "form_of(kind,row) empty_form(kind) is_form(kind,value) joined(kind,one,other) joined_all(kind,forms) "
             "works_on(kind,form,contents) left_by(kind,form,contents) rows_alike(kind,one,other)",
    "several": "own_row(boxes,row,name) all_left(boxes,row,contents) first_failing(boxes,row,contents) "
               "failing_of(boxes,row,contents) mixed_form(boxes,row) is_mixed_form(boxes,value) "
               "joined_mixed(boxes,one,other) mixed_works(boxes,form,contents) mixed_left(boxes,form,contents) "
               "mixed_alike(boxes,one,other) parting_box(boxes,one,other) same_but_order(boxes,one,other) "
               "least_exchanges(boxes,one,other) told_exchanges(boxes,one,other) leads_by(boxes,one,other,value) "
               "orderly_row(boxes,row) how_many_orders(boxes,row)",
    "comparing": "is_less(kind,one,other) are_comparable(kind,one,other) has_back(kind,form) back_of(kind,form) "
                 "shortest_row(kind,form) shortest_steps(kind,form) is_shortest(kind,row)",
    "powers": "power_of(kind,form,n) is_power_nowhere(kind,form,n) repeats_at(kind,form) lasting(kind,form,contents) "
              "works_behind(kind,form,n,contents) size_behind(kind,form,n,contents) "
              "letter_behind(kind,form,n,contents,place) left_behind(kind,form,n,contents)",
    "registers": "is_desk(value) is_load(desk,value) is_moved_step(desk,value) is_moved_row(desk,value) "
                 "load_left(desk,row,load) failing_moved(desk,row,load) loads_along(desk,row,load) "
                 "met_boxes(desk,row) met_registers(desk,row) first_read(desk,row)",
    "signs": "depths_of(desk,row) classes_at(desk,depths) class_of(desk,depths,load) signs_of(desk,row,depths,cls)",
    "classes": "form_in(desk,row,depths,cls) is_moved_form(desk,depths,cls,value) moved_works(desk,depths,cls,form,load) "
               "moved_left(desk,depths,cls,form,load) told_load(desk,depths,cls,form)",
    "movedforms": "table_of(desk,row,depths) shared_depths(desk,one,other) moved_alike(desk,one,other) "
                  "first_parting_class(desk,one,other) moved_less(desk,one,other) is_table(desk,depths,value) "
                  "put_together(desk,depths,table,other_depths,other)",
    "whereabouts": "terms_behind(desk,row,depths,cls) whereabouts(desk,row,depths,cls) lost_parts(desk,row,depths,cls) "
                   "loses_nothing(desk,row,depths,cls) can_be_left(desk,row,depths,cls,load) "
                   "load_ahead(desk,row,depths,cls,load) do_meet(desk,row,depths,one,other) is_one_to_one(desk,row) "
                   "merged_paper(desk,row) accepts_merged(desk,row,value)",
    "parting": "fresh_letters(rows,many) does_part(kind,one,other,contents) trials_for(kind,one,other) "
               "told_parting(kind,one,other) part_paper(kind,one,other) accepts_part(kind,one,other,value) "
               "told_key(kind,rows)",
    "movedparting": "moved_trials(desk,one,other) moved_parting(desk,one,other) moved_does_part(desk,one,other,load)",
    "programs": "reached_parts(program) length_of(program,name) step_at(program,k) times_done(program,step) "
                "shown_row(program) part_form(program,name) program_form(program) form_behind(program,k) "
                "does_work(program,contents) program_left(program,contents) failing_number(program,contents) "
                "steps_left(program,k,contents) programs_alike(one,other) is_program_less(one,other) idle_acts(program)",
    "texts": "is_thing(value) write_text(thing) read_text(text) lines_due(text)",
}
# The methods of each class of the interface, each defined in the class itself.
CLASSES = {
    ("several", "Boxes"): "__init__(self,pairs) names(self) kind_of(self,name) has_step(self,value) __eq__(self,other)",
    ("programs", "Program"): "__init__(self,boxes,parts) boxes(self) parts(self) names(self) acts_of(self,name) "
                             "from_row(boxes,row) __eq__(self,other)",
    ("bench", "Bench"): "__init__(self,boxes,contents) boxes(self) now(self) deeds(self) was(self,moment) "
                        "form_between(self,one,other) do(self,row) repeat(self,row,times) undo(self) redo(self) "
                        "undo_of(self,name) __len__(self) trying(self,guest,*,kept) twin(self) __eq__(self,other)",
    ("console", "Console"): "__init__(self) run(self,line)",
}
METHODS = (
    "add append clear copy count endswith extend find get index insert items join keys pop remove setdefault "
    "split startswith update values"
).split()
# The names of the methods, and of the one attribute that is read from outside, of the package's own classes.
OWN_METHODS = (
    "names kind_of has_step pairs told tell tell_all tie tie_part are_kept parts next_one next_ones under do form at at_all "
    "length times step form_of_acts first_form run boxes acts_of ahead are_more taken taken_word end now deeds was "
    "form_between repeat undo redo undo_of"
).split()


def signature(node):
    names = [arg.arg for arg in node.args.args]
    if node.args.kwonlyargs:
        names += ["*"] + [arg.arg for arg in node.args.kwonlyargs]
    return f"{node.name}({','.join(names)})"


def trees():
    return {path.stem: ast.parse(path.read_text(encoding="ascii")) for path in sorted(PACKAGE.glob("*.py"))}


class Package(unittest.TestCase):
    def test_only_python_files_of_plain_characters(self):
        for path in PACKAGE.rglob("*"):
            if "__pycache__" in path.parts:
                continue
            self.assertEqual(path.suffix, ".py", path)
            text = path.read_text(encoding="ascii")
            self.assertTrue(all(sign == "\n" or " " <= sign <= "~" for sign in text), path)
            self.assertLess(len(text.splitlines()), 400, path)
            self.assertLessEqual(max(len(line) for line in text.splitlines()), 120, path)

    def test_functions_are_small(self):
        for name, tree in trees().items():
            for node in ast.walk(tree):
                if isinstance(node, ast.FunctionDef):
                    self.assertLessEqual(node.end_lineno - node.lineno + 1, 40, (name, node.name))

    def test_interface_stands_in_its_files(self):
        found = trees()
        for name, listed in INTERFACE.items():
            told = {signature(node) for node in found[name].body if isinstance(node, ast.FunctionDef)}
            self.assertEqual(set(listed.split()) - told, set(), name)

    def test_classes_of_the_interface_define_their_methods(self):
        found = trees()
        for (file, name), listed in CLASSES.items():
            node, = [node for node in found[file].body if isinstance(node, ast.ClassDef) and node.name == name]
            told = {signature(method) for method in node.body if isinstance(method, ast.FunctionDef)}
            self.assertEqual(set(listed.split()) - told, set(), name)

    def test_imports_are_of_the_package_alone(self):
        found = trees()
        for name, tree in found.items():
            for node in ast.walk(tree):
                self.assertNotIsInstance(node, (ast.Import, ast.Global, ast.JoinedStr, ast.Set), name)
                if isinstance(node, ast.ImportFrom):
                    package, _, source = node.module.partition(".")
                    self.assertEqual((package, node.level), ("boxeffects", 0), name)
                    here = [getattr(part, "name", None) for part in found[source].body]
                    here += [part.targets[0].id for part in found[source].body if isinstance(part, ast.Assign)]
                    for alias in node.names:
                        self.assertIsNone(alias.asname)
                        self.assertIn(alias.name, here, name)

    def test_no_two_files_import_from_each_other(self):
        sources = {name: {node.module.partition(".")[2] for node in ast.walk(tree) if isinstance(node, ast.ImportFrom)}
                   for name, tree in trees().items()}
        while sources:
            leaves = [name for name in sources if not sources[name] & set(sources)]
            self.assertNotEqual(leaves, [], sources)
            for name in leaves:
                del sources[name]

    def test_each_name_has_one_meaning(self):
        for name, tree in trees().items():
            imported = [alias.name for node in tree.body if isinstance(node, ast.ImportFrom) for alias in node.names]
            own = [node.name for node in tree.body if isinstance(node, (ast.FunctionDef, ast.ClassDef))]
            own += [node.targets[0].id for node in tree.body if isinstance(node, ast.Assign)]
            self.assertEqual(len(set(imported + own)), len(imported + own), name)
            read = {node.id for node in ast.walk(tree) if isinstance(node, ast.Name) and isinstance(node.ctx, ast.Load)}
            self.assertEqual(set(imported) - read, set(), name)
            for node in ast.walk(tree):
                if isinstance(node, ast.FunctionDef):
                    local = {arg.arg for arg in node.args.args + node.args.kwonlyargs}
                    local |= {inner.id for inner in ast.walk(node) if isinstance(inner, ast.Name)
                              and isinstance(inner.ctx, ast.Store)}
                    self.assertEqual(local & (set(imported + own) | set(dir(builtins))), set(), (name, node.name))

    def test_methods_of_values_are_the_allowed_ones(self):
        for name, tree in trees().items():
            for node in ast.walk(tree):
                if isinstance(node, ast.Attribute) and isinstance(node.ctx, ast.Load) and node.attr[0] != "_":
                    self.assertIn(node.attr, METHODS + OWN_METHODS, name)

    def test_examples_of_the_readme(self):
        # A fence behind an example would be read as a part of what it tells.
        text = (TOP / "README.md").read_text(encoding="ascii").replace("```", "")
        told = doctest.DocTestParser().get_doctest(text, {}, "README.md", None, 0)
        result = doctest.DocTestRunner().run(told)
        self.assertEqual(result.failed, 0)
        self.assertGreater(result.attempted, 0)


if __name__ == "__main__":
    unittest.main()
