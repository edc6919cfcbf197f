"""Whether the names of the document's interface stand where it lists them, with the arguments it tells."""

import ast
import pathlib
import unittest

PACKAGE = pathlib.Path(__file__).resolve().parent.parent / "reachkept"

FUNCTIONS = {
    "kinds": {"is_integer": ["thing"], "is_name": ["thing"], "is_value": ["thing"]},
    "forms": {"is_expression": ["thing"], "is_statement": ["thing"], "is_body": ["thing"], "is_module": ["thing"]},
    "scopes": {"owned": ["givens", "body"], "loose": ["names", "body"], "misplaced": ["body", "kind"],
               "many": ["body"]},
    "likeness": {"matched": ["one", "ones", "other", "others"], "packed": ["heap", "values"]},
    "reading": {"read": ["program", "ticks"]},
    "watching": {"watched": ["program", "ticks", "module", "name"], "deepest": ["program", "ticks"],
                 "thrown": ["program", "ticks"]},
    "codes": {"is_op": ["thing"], "is_codes": ["thing"]},
    "checking": {"faults": ["codes"], "unmet": ["codes"], "is_sound": ["codes"],
                 "open_tries": ["codes", "code", "op"]},
    "compiling": {"compiled": ["program"], "variable": ["program", "codes", "module", "name"]},
    "frames": {"kind_of": ["heap", "value"], "told_of": ["heap", "value"], "chain": ["heap"],
               "is_state": ["codes", "heap"]},
    "runs": {"ran": ["program", "ticks"], "ran_codes": ["codes", "ticks"], "first_unlike": ["one", "other", "ticks"],
             "traffic": ["codes", "ticks"]},
    "plans": {"is_plan": ["thing"], "is_less": ["one", "other"], "plans": ["scan", "roots", "fresh"]},
    "courses": {"played": ["heap", "roots", "plan", "steps"], "next_steps": ["course"],
                "collected": ["heap", "roots", "plan"]},
    "keeping": {"keeps": ["plan"], "hides": ["plan"], "is_loss": ["plan", "heap", "roots", "thing"], "loss": ["plan"],
                "least_plans": ["scan", "roots", "fresh"], "mended": ["plan"]},
    "nursery": {"is_young_plan": ["thing"], "keeps_young": ["plan"],
                "is_young_loss": ["plan", "heap", "roots", "thing"], "young_loss": ["plan"]},
    "traces": {"is_trace": ["thing"], "is_start": ["size", "thing"], "gone": ["trace", "start"]},
    "judging": {"do_same": ["one", "other"], "is_parting": ["one", "other", "thing"], "parting": ["one", "other"],
                "met_steps": ["trace"], "start_to": ["trace", "index"], "word_at": ["trace", "index"]},
    "shortening": {"without": ["trace", "index"], "with_step": ["trace", "index", "step"], "swapped": ["trace", "index"],
                   "may_drop": ["trace", "index"], "may_put": ["trace", "index", "step"],
                   "may_swap": ["trace", "index"], "idle_steps": ["trace"], "lean": ["trace"],
                   "copies": ["trace", "index"], "constants": ["trace", "index"]},
    "weaving": {"joined": ["one", "other"], "renamed": ["trace", "registers"], "narrowed": ["trace", "kept"],
                "parted_by": ["one", "other", "kept"]},
    "recording": {"trace_at": ["codes", "code", "op", "truths"], "truths_of": ["machine"],
                  "fits": ["codes", "code", "op", "truths", "trace"], "way_lean": ["codes", "code", "op", "truths"]},
    "manners": {"ran_led": ["program", "ticks", "plan", "schedule"],
                "ran_traced": ["program", "ticks", "plan", "schedule"],
                "all_manners": ["program", "ticks", "plan", "schedule"],
                "greatest": ["program", "ticks", "plan", "schedule"]},
    "images": {"image": ["machine"], "machine_of": ["thing"], "moved": ["machine"],
               "alike_machines": ["one", "other"]},
    "notation": {"show_expression": ["one"], "show_body": ["body"], "show_program": ["program"], "show_plan": ["plan"],
                 "show_step": ["step"], "show_trace": ["trace"], "show_codes": ["codes"]},
    "readers": {"read_expression": ["text"], "read_body": ["text"], "read_program": ["text"], "read_plan": ["text"],
                "read_step": ["text"], "read_trace": ["text"], "read_codes": ["text"]},
}

CLASSES = {
    "heaps": {"Heap": {
        "__init__": [], "__eq__": ["other"], "__len__": [], "new": ["fields"], "fields": ["number"],
        "get": ["number", "field"], "has": ["number", "field"], "put": ["number", "field", "value"], "numbers": [],
        "free": ["numbers"], "reached": ["values"], "copied": []}},
    "programs": {"Program": {
        "__init__": ["modules", "main"], "__eq__": ["other"], "main": [], "modules": [], "module": ["name"],
        "order": [], "leads": ["name"], "with_module": ["name", "module"]}},
    "machines": {"Machine": {
        "__init__": ["codes", "ticks"], "step": [], "run": [], "told": [], "end": [], "left": [], "done": [],
        "heap": [], "copied": []}},
    "courses": {"Course": {
        "__init__": ["heap", "roots", "plan"], "do": ["step"], "heap": [], "colours": [], "open_fields": ["number"],
        "lost": [], "steps": [], "copied": []}},
    "nursery": {"Nursery": {
        "__init__": ["heap", "roots", "plan"], "do": ["step"], "heap": [], "lost": [], "steps": [], "copied": [],
        "ages": [], "remembered": []}},
    "led": {"Led": {
        "__init__": ["codes", "ticks", "plan", "schedule"], "step": [], "run": [], "told": [], "end": [], "left": [],
        "done": [], "heap": [], "copied": [], "lost": [], "laid": [], "colours": [], "ended": [], "freed": [],
        "lay": ["code", "op", "truths", "trace"]}},
    "journals": {"Journal": {
        "__init__": ["codes", "ticks"], "__len__": [], "machine": [], "on": ["many"], "to": ["code", "op"],
        "back": ["many"], "again": [], "last_put": ["number", "field"], "tellers": [], "at_op": ["number"]}},
    "houses": {"House": {
        "__init__": ["program"], "__eq__": ["other"], "__len__": [], "do": ["deed"], "program": [], "plan": [],
        "schedule": [], "claims": [], "log": [], "run": ["ticks"], "back": [], "again": [], "copied": [],
        "trial": ["deeds"]}},
    "desk": {"Desk": {"__init__": ["program"], "execute": ["line"], "house": []}},
}


def arguments(function):
    return [argument.arg for argument in function.args.args]


def parsed(module):
    return ast.parse((PACKAGE / (module + ".py")).read_text(encoding="utf-8")).body


class TestInterface(unittest.TestCase):
    def test_functions_are_defined_in_their_files(self):
        for module, functions in FUNCTIONS.items():
            found = {node.name: arguments(node) for node in parsed(module) if isinstance(node, ast.FunctionDef)}
            for name, expected in functions.items():
                self.assertEqual(found.get(name), expected, (module, name))

    def test_classes_are_defined_in_their_files_with_their_methods(self):
        for module, classes in CLASSES.items():
            found = {node.name: node for node in parsed(module) if isinstance(node, ast.ClassDef)}
            for name, methods in classes.items():
                inside = {node.name: arguments(node)[1:] for node in found[name].body
                          if isinstance(node, ast.FunctionDef)}
                for method, expected in methods.items():
                    self.assertEqual(inside.get(method), expected, (module, name, method))

    def test_the_package_is_one_folder_of_python_files(self):
        for path in PACKAGE.iterdir():
            if path.name != "__pycache__":
                self.assertEqual(path.suffix, ".py", path.name)


if __name__ == "__main__":
    unittest.main()
