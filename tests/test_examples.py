"""The examples of the document, just as they are printed there."""

import importlib
import os
import unittest

HERE = os.path.dirname(os.path.abspath(__file__))
MODULES = ("errors checks papers rules pasts ready joined least_rule freer order questions stocks wishes cases "
           "changed twins two_cases situations roads freer_situations fading plans depths carried pair_plans check_plans "
           "books rings weights gaps again check_books shadows ahead mending spelled check_ahead rounds "
           "round_books prices fronts check_rounds answerers whom untold bars check_bars evenings late told broken doubted stories "
           "paper_kinds paper_texts reader whole desk").split()


def names_of_package():
    """Everything that the modules of the interface define."""
    names = {}
    for module in MODULES:
        loaded = importlib.import_module("truthwell." + module)
        names.update({name: value for name, value in vars(loaded).items() if not name.startswith("_")})
    return names


def examples():
    """Pairs of a line and what is printed behind it, None if nothing is."""
    with open(os.path.join(HERE, "examples.txt"), encoding="utf-8") as file:
        lines = [line for line in file.read().split("\n") if line and not line.startswith("# ")]
    pairs = []
    for line, behind in zip(lines, lines[1:] + [">>> "]):
        if line.startswith(">>> "):
            pairs.append((line[4:], None if behind.startswith(">>> ") else behind))
    return pairs


class Examples(unittest.TestCase):
    def check(self, names, line, printed):
        if printed is None:
            exec(line, names)
        elif printed.startswith("raises "):
            wanted = eval(printed[len("raises "):], names)
            with self.assertRaises(type(wanted)) as caught:
                eval(line, names)
            self.assertEqual((type(caught.exception), vars(caught.exception)), (type(wanted), vars(wanted)))
        else:
            self.assertEqual(repr(eval(line, names)), printed)

    def test_examples(self):
        names = names_of_package()
        pairs = examples()
        self.assertEqual(len(pairs), 150)
        for line, printed in pairs:
            with self.subTest(line=line):
                self.check(names, line, printed)


if __name__ == "__main__":
    unittest.main()
