"""The examples of the document, one file for each section under tests/examples."""

from pathlib import Path

from risewords import errors
from support import Case

FOLDER = Path(__file__).with_name("examples")
# A section's examples call names from these modules.
MODULES = {
    "ratios": ("base.ratios",),
    "rows": ("word.rows",),
    "tables": ("base.tables",),
    "mixes": ("word.mixes",),
    "products": ("word.mixes", "weave.products"),
    "lyndon": ("word.mixes", "weave.lyndon"),
    "leading": ("weave.leading",),
    "sums": ("cut.sums",),
    "chains": ("cut.chains",),
    "turning": ("cut.turning",),
    "residues": ("prime.residues",),
    "polynomials": ("whole.polynomials",),
    "relations": ("word.mixes", "follow.relations"),
    "families": ("follow.families",),
    "bases": ("word.mixes", "follow.bases"),
    "pairs": ("pair.pairs",),
    "rounds": ("pair.rounds",),
    "letters": ("side.letters",),
    "orders": ("order.orders",),
    "values": ("word.mixes", "value.values"),
    "desk": ("word.mixes", "desk.desk"),
    "strings": ("word.mixes", "text.strings"),
}


def names_for(section):
    """The names that the examples of a section can use."""
    names = dict(vars(errors))
    for module in MODULES[section]:
        exec(f"from risewords.{module} import *", names)
    return names


def examples_in(text):
    """The pairs of a statement and the line below it, None if it shows nothing."""
    found = []
    for line in text.splitlines():
        if line.startswith(">>> "):
            found.append((line[4:], None))
        elif line:
            found[-1] = (found[-1][0], line)
    return found


class Examples(Case):
    def test_each_file_has_its_modules(self):
        self.assertEqual(sorted(path.stem for path in FOLDER.glob("*.txt")), sorted(MODULES))

    def test_examples(self):
        for section in MODULES:
            names = names_for(section)
            for statement, wanted in examples_in((FOLDER / f"{section}.txt").read_text()):
                with self.subTest(section=section, statement=statement):
                    self.run_example(statement, wanted, names)

    def run_example(self, statement, wanted, names):
        if wanted is None:
            exec(statement, names)
        elif wanted.startswith("raises "):
            self.fails(eval(wanted[7:], names), eval, statement, names)
        else:
            self.same(eval(statement, names), eval(wanted, names))
