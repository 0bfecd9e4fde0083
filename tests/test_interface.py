"""The interface: each module can be imported by itself, and has what it lists, defined in its own file."""

import ast
import inspect
import pathlib
import subprocess
import sys
import unittest

ROOT = pathlib.Path(__file__).resolve().parent.parent
PACKAGE = ROOT / "merelylate"
INTERFACE = {
    "errors": "MillError BadMill(part) BadColumns(index) BadTick() BadLetters() BadWindow() BadNumber() BadLate(index) "
              "NotHonest() NotAlike() BadStep() TooMany(most) BadText(line) BadWords() BadSplit() BadWeights() BadEager(index)",
    "mills": "reach(mill) holds(mill,columns,tick) is_history(mill,value) tells(mill,columns)",
    "windows": "windows(mill) live_windows(mill) next_windows(mill,window,letter) sets_through(mill,letters)",
    "paradoxes": "paradox(mill) is_paradox(mill,letters) shows_closed_sets(mill,value) closed_sets(mill)",
    "choices": "free_choice(mill) two_stories(mill) shows_free_choice(mill,value) shows_ranks(mill,value) is_honest(mill) "
               "shows_two_stories(mill,value) ranks(mill) least_delay(mill) bound(mill)",
    "late": "late_mill(mill) run_late(machine,letters) shows_late(mill,machine) are_alike(one,other) unlike_word(one,other)",
    "futures": "open_tellings(mill,letters) sure(mill,letters) count_parts(mill,letters) owed_most(mill)",
    "benches": "Bench(mill)",
    "texts": "written(mill,words) read_mill(text)",
    "joins": "behind(one,other) beside(one,other) ringed(mill) turned(mill) reads_back(mill)",
    "lots": "decided(mill) needed(mill) delays(mill) without(mill,lot) honest_lots(mill)",
    "faults": "fault_reach(mill) letter_reach(mill) heals(mill)",
    "loops": "has_history(mill,word) shows_history(mill,word,value) history_of(mill,word) telling_of(mill,word) "
             "how_many(mill,word) steady(mill,letter)",
    "friends": "keeps_on(mill,split) friend_plan(mill,split) enemy_ticks(mill,split)",
    "chances": "lost_within(mill,weights,ticks) ever_lost(mill,weights) mean_wait(mill,weights)",
    "eager": "eager_mill(mill) run_eager(machine,letters) fast(mill) shows_eager(mill,machine) bursts(mill)",
    "reports": "broken(mill,columns,tick) why_not(mill,letters)"}


def parts():
    """Each listed name with its module and its arguments, None where the list tells none."""
    for module, row in INTERFACE.items():
        for entry in row.split():
            name, _, rest = entry.partition("(")
            yield module, name, [one for one in rest.rstrip(")").split(",") if one] if rest else None


class InterfaceTest(unittest.TestCase):

    def test_each_module_by_itself(self):
        for module in [path.stem for path in sorted(PACKAGE.glob("*.py"))]:
            name = "merelylate" if module == "__init__" else f"merelylate.{module}"
            done = subprocess.run([sys.executable, "-B", "-W", "error", "-c", f"import {name}"], cwd=ROOT,
                                  capture_output=True, text=True)
            self.assertEqual((done.returncode, done.stderr), (0, ""), module)

    def test_all_are_defined_in_their_files(self):
        for module, name, _ in parts():
            tree = ast.parse((PACKAGE / f"{module}.py").read_text(encoding="utf-8"))
            defined = [node.name for node in tree.body if isinstance(node, (ast.FunctionDef, ast.ClassDef))]
            self.assertIn(name, defined, module)

    def test_arguments(self):
        for module, name, arguments in parts():
            value = getattr(__import__(f"merelylate.{module}", fromlist=[name]), name)
            if arguments is not None and (arguments or module != "errors"):
                self.assertEqual(list(inspect.signature(value).parameters), arguments, name)

    def test_methods_of_a_bench(self):
        from merelylate.benches import Bench
        for name, arguments in (("read", ["letter"]), ("back", []), ("choose", ["columns"]), ("sure", [])):
            self.assertEqual(list(inspect.signature(vars(Bench)[name]).parameters), ["self"] + arguments)
        for name in ("letters", "left"):
            self.assertIsInstance(vars(Bench)[name], property)


if __name__ == "__main__":
    unittest.main()
