"""0.1 to 0.6 and 9.6 over the whole program: whole texts, from the canal's rows to the last answer."""

import copy
import importlib
import pathlib
import subprocess
import sys
import types
import unittest

from lockhouse import errors
from lockhouse.advice import advice, waiting
from lockhouse.boats import all_home, rank
from lockhouse.errors import CanalError
from lockhouse.house import House, run
from lockhouse.journal import entries_of, entry_of, written
from lockhouse.look import leads_home
from lockhouse.reading import canal_of
from lockhouse.revival import revived
from lockhouse.showing import shown
from lockhouse.vessels import poured_all, total
from tests.helpers import REFUSAL_WORDS, Witness, row_written, some_books, some_entry, some_row, stands, told

ROOT = pathlib.Path(__file__).resolve().parent.parent

# Two locks one behind the other; the upper pond has water for one fill until it rains.
FLIGHT = """
reach sound 0 60 2 20 sea
reach pool 4 40 1 24 sound
reach tarn 5 50 2 16 pool

lock lower pool sound 8
lock upper tarn pool 10 basin 5
night tarn 6 0
night pool 2 1 tarn 3 3
"""

# A pump and a plain lock beside one another, and a night of sun.
PUMPED = """
reach quay 0 90 3 30 sea
reach mere 10 80 2 26 quay
lock mill mere quay 12
lock pump mere quay 12 pump 9
night mere 0 7
"""


class Case(unittest.TestCase):
    def witnessed(self, canal, most, rows):
        """Runs a whole text with a witness beside it; tells the answers and the witness."""
        answers = run(canal + f"keeper {most}\n" + "".join(row + "\n" for row in rows))
        self.assertEqual(answers[-1:], "\n" if rows else "")
        told_rows = answers.split("\n")[:-1]
        self.assertEqual(len(told_rows), len(rows))
        witness = Witness(self, canal_of(canal), most)
        for row, answer in zip(rows, told_rows):
            witness.heard(row, answer)
            self.no_water_is_made_or_lost(witness.book)
        return told_rows, witness

    def no_water_is_made_or_lost(self, book):
        waters = book.state()[1]
        self.assertEqual(total(waters), total(book.canal().start()))
        self.assertEqual(poured_all(book.canal().start(), book.ledger()), waters)
        self.assertGreaterEqual(min(waters[:-1]), 0)

    def comes_home(self, canal, rows, most=1000):
        """A text whose rows end with works enough: every boat is home behind it."""
        book = self.witnessed(canal, most, rows)[1].book
        works = rank(book.canal(), book.ways(), book.state())
        answers, witness = self.witnessed(canal, most, rows + ["work"] * works + ["work", "plan"])
        self.assertEqual(answers[-2:], ["not done", "plan"])
        self.assertTrue(all_home(witness.book.ways(), witness.book.state()))
        return answers, witness.book


class Texts(Case):
    def answered(self, canal, keeper, pairs):
        """A whole text with rows of a row and its answer, each plan of which is the only one of its length."""
        rows = [row for row, _ in pairs]
        text = canal + keeper + "\n" + "\n".join(rows)
        self.assertEqual(run(text), "".join(answer + "\n" for _, answer in pairs))
        self.assertEqual(run(text + "\n\n"), run(text))
        self.witnessed(canal, 200, rows)

    def test_a_text_and_its_whole_answer(self):
        canal = """
reach pool 0 50 1 10 sea
reach pond 4 50 1 14 pool

lock mill pond pool 10
night pond 3 1
"""
        self.answered(canal, "keeper", (
            ("waters", "waters 10 14"), ("knots", "free 2"), ("work", "not done"),
            ("come swan pool mill up", "yes pass swan"), ("come duck pond mill down", "yes pass swan, pass duck"),
            ("advice mill", "advice swan duck"), ("pass duck", "no 2"), ("take pond 1",
                                                                         "yes night, pass swan, pass duck"),
            ("let mill", "not empty"), ("come swan pond mill down", "refused twice"),
            ("come goose pond mill up", "refused linked"), ("come goose sea mill up", "refused unknown"),
            ("night 0 0", "refused number"), ("night 0 0 2 1", "refused dry"), ("fly swan", "refused row"),
            ("pass swan", "not water"), ("take pond 3", "no 2"), ("waters", "waters 10 13"),
            ("knots", "knot night, pass duck"), ("night 0 0 5 0", "yes pass swan, pass duck"),
            ("rain pool 100", "yes pass swan, pass duck"), ("waters", "waters 50 18"), ("knots", "knot pass duck"),
            ("come goose pond mill down", "not berth"), ("work", "yes pass duck"), ("waters", "waters 50 8"),
            ("pass swan", "not home"), ("let mill", "no 1"), ("plan", "plan pass duck"), ("work", "yes"),
            ("waters", "waters 50 8"), ("work", "not done"), ("night 0 0 3 1", "not over"), ("advice mill", "advice"),
            ("plan", "plan"), ("knots", "free 1"),
        ))

    def test_works_alone(self):
        self.answered(FLIGHT, "keeper 200", (
            ("come swan sound lower up upper up", "yes pass swan, pass swan"), ("work", "yes pass swan"),
            ("waters", "waters 20 16 16"), ("work", "yes"), ("waters", "waters 20 16 6"), ("work", "not done"),
        ))
        self.comes_home(FLIGHT, ["come swan sound lower up upper up", "come duck tarn upper down lower down"])
        self.comes_home(PUMPED, ["come a quay mill up mill down", "come b mere pump down", "come c quay pump up"])

    def test_no_boat_at_all(self):
        for canal in (FLIGHT, PUMPED, "reach a 0 9 1 5 sea\n"):
            nights = len(canal_of(canal).nights)
            self.assertEqual(self.comes_home(canal, [])[0], ["not done"] * (nights + 1) + ["plan"])

    def test_with_wishes_between_works(self):
        rows = ["come swan sound lower up upper up", "work", "take tarn 11", "come duck tarn upper down lower down",
                "pass duck", "let upper", "plan", "work", "pass swan", "let lower", "come goose pool lower down",
                "work", "take tarn 1", "waters", "knots", "work", "come gull sound lower up", "pass gull",
                "take sound 5"]
        answers, book = self.comes_home(FLIGHT, rows)
        self.assertEqual(book.names(), ["swan", "duck", "goose", "gull"])
        self.assertEqual((answers[2].split(" ")[0], answers[4]), ("no", "not berth"))

    def test_with_rain(self):
        rows = ["come swan sound lower up upper up", "rain tarn 3", "work", "rain pool 90", "plan", "rain sound 0",
                "come duck tarn upper down lower down", "rain tarn 999999999999", "waters", "work", "rain sound 7"]
        answers, book = self.comes_home(FLIGHT, rows)
        self.assertNotIn("refused", " ".join(answers))
        self.assertGreaterEqual(len(book.ledger()), 5)

    def test_with_nights_that_are_wetter_than_foretold(self):
        rows = ["come swan tarn upper down upper up", "come duck sound lower up upper up", "night 0 0 0 0 9 0", "plan",
                "work", "night 50 0 2 0 3 3", "waters", "work", "night 0 0 0 0 0 0"]
        answers, book = self.comes_home(FLIGHT, rows)
        self.assertEqual([entry[0] for entry in book.entries()].count("night"), 2)
        self.assertEqual((answers[2][:3], answers[5][:3], answers[8]), ("yes", "yes", "not over"))

    def test_with_all_of_that(self):
        rows = ["come a quay mill up mill down", "rain mere 2", "come b mere pump down", "night 3 0 1 5", "work",
                "take quay 3", "come c quay pump up", "rain quay 100", "work", "let mill", "let pump", "advice mill",
                "advice pump", "waters"]
        self.comes_home(PUMPED, rows)

    def test_a_bound_that_is_too_small_for_most(self):
        for most in (1, 2, 3, 5, 8):
            rows = ["come a quay mill up mill down", "come b mere pump down", "knots", "work", "come c quay pump up",
                    "knots"]
            self.comes_home(PUMPED, rows, most)


class Every(Case):
    """Texts of many canals, with rows of all sorts, each behind a house that was asked them one by one."""

    def test_every_boat_comes_home(self):
        homes = 0
        for book, source in some_books(60, 11):
            head = shown(book.canal())
            house = House(head + "keeper 150\n")
            rows = []
            for _ in range(14):
                rows.append(some_row(source, house.keeper().book()) or "plan")
                house.ask(rows[-1])
            homes += 1 if self.comes_home(head, rows, 150)[1].names() else 0
        self.assertGreater(homes, 30)

    def test_works_with_wishes_between_them(self):
        for book, source in some_books(60, 12):
            house = House(shown(book.canal()) + "keeper 150\n")
            for _ in range(10):
                house.ask(row_written(some_entry(source, house.keeper().book())))
            now = house.keeper().book()
            for _ in range(rank(now.canal(), now.ways(), now.state())):
                house.ask("work")
                entry = some_entry(source, house.keeper().book())
                if entry[0] != "come":
                    house.ask(row_written(entry))
            now = house.keeper().book()
            self.assertTrue(all_home(now.ways(), now.state()))
            self.assertEqual((house.ask("work"), house.ask("plan")), ("not done", "plan"))

    def test_a_keeper_revived_from_what_a_house_has_done(self):
        for book, source in some_books(60, 13):
            house = House(shown(book.canal()) + "keeper 150\n")
            for _ in range(15):
                house.ask(some_row(source, house.keeper().book()))
            kept = house.keeper().book()
            journal = written(kept.entries())
            keeper = revived(canal_of(shown(house.canal())), entries_of(journal), 100000)
            twin = keeper.book()
            self.assertEqual(stands(twin), stands(kept))
            self.assertTrue(leads_home(twin.canal(), twin.ways(), twin.state(), keeper.plan()))
            self.assertEqual([entry_of(row) for row in journal.split("\n")[:-1]], twin.entries())
            # The journal is the rows that were answered by a yes; asked of a new house, they are done again.
            again = House(shown(house.canal()) + "keeper 1000\n")
            if all(again.ask(row).split(" ")[0] == "yes" for row in journal.split("\n")[:-1]):
                self.assertEqual(stands(again.keeper().book()), stands(kept))


class Kept(Case):
    """0.3: what is handed in stays, what is told is the asker's own, and numbers are whole numbers."""

    def numbers_in(self, value):
        if isinstance(value, (list, tuple)):
            return [number for part in value for number in self.numbers_in(part)]
        return [] if isinstance(value, str) else [value]

    def test_numbers_are_whole_numbers(self):
        for book, source in some_books(40, 14):
            house = House(shown(book.canal()) + "keeper 150\n")
            for _ in range(12):
                house.ask(some_row(source, house.keeper().book()))
            now = house.keeper().book()
            kept = (now.ways(), now.state(), now.ledger(), now.gatework(), now.entries(), house.keeper().plan())
            self.assertEqual({type(number) for number in self.numbers_in(kept)}, {int})

    def test_changing_what_is_told_changes_nothing(self):
        text = FLIGHT + "keeper 1000\n"
        rows = ["come swan sound lower up upper up", "come duck tarn upper down lower down", "work", "plan", "work",
                "waters"]
        one, other = House(text), House(text)
        for row in rows:
            self.assertEqual(one.ask(row), other.ask(row))
            book = one.keeper().book()
            lists = [book.names(), book.ways(), book.ledger(), book.gatework(), book.entries(), one.keeper().plan(),
                     waiting(book, "lower"), advice(book, "upper"), one.canal().weirs()]
            kept = copy.deepcopy(lists)
            self.assertEqual(lists, kept)
            for changed in lists:
                changed.clear()
            book.do(("rain", "tarn", 1))
            self.assertEqual(stands(one.keeper().book()), stands(other.keeper().book()))

    def test_what_was_told_stays(self):
        house = House(FLIGHT + "keeper 1000\n")
        house.ask("come swan sound lower up upper up")
        book = house.keeper().book()
        lists = [book.names(), book.ways(), book.ledger(), book.entries(), house.keeper().plan(), advice(book, "lower")]
        kept = copy.deepcopy(lists)
        canal = told(house.canal())
        for row in ("work", "rain tarn 90", "come duck tarn upper down", "work", "work", "night 9 0 9 0 9 0"):
            house.ask(row)
        self.assertEqual(lists, kept)
        self.assertEqual(told(house.canal()), canal)
        self.assertEqual(stands(book), stands(book.copied()))


class Refusals(Case):
    """0.5: each refusal is a class of its own straight under CanalError; a house has a word for each that it meets."""

    def test_the_words_are_those_of_classes_straight_under_canal_error(self):
        for name in REFUSAL_WORDS:
            self.assertEqual(getattr(errors, name).__bases__, (CanalError,))
        self.assertEqual(CanalError.__bases__, (ValueError,))

    def test_no_other_refusal_comes_out_of_a_house(self):
        for book, source in some_books(80, 15):
            house = House(shown(book.canal()) + f"keeper {source.choice((1, 9, 100))}\n")
            for _ in range(25):
                answer = house.ask(some_row(source, house.keeper().book()))
                self.assertIn(answer.split(" ")[0], ("yes", "no", "not", "plan", "waters", "advice", "free", "knot",
                                                     "refused"))
                if answer.startswith("refused"):
                    self.assertIn(answer[8:], REFUSAL_WORDS.values())

    def test_a_book_refuses_what_a_house_refuses(self):
        for book, source in some_books(80, 16):
            house = House(shown(book.canal()) + "keeper 200\n")
            for _ in range(15):
                entry = some_entry(source, house.keeper().book())
                try:
                    word = house.keeper().book().fault(entry)
                except CanalError as error:
                    row = row_written(entry)
                    answer = house.ask(row)
                    # A name or a weather that no row can write is refused as a row.
                    self.assertIn(answer, ("refused " + REFUSAL_WORDS[type(error).__name__], "refused row"))
                    if answer == "refused row":
                        self.assertRaises(CanalError, entry_of, row)
                else:
                    self.assertEqual(house.ask(row_written(entry)).startswith("not "), word != "")


class Nothing(Case):
    """0.1: nothing uses a clock, chance or files, and the answers are the same wherever they are asked."""

    def test_no_module_holds_another_module(self):
        for path in sorted((ROOT / "lockhouse").glob("*.py")):
            if path.stem != "__init__":
                held = vars(importlib.import_module(f"lockhouse.{path.stem}"))
                drawn = [name for name, value in held.items() if isinstance(value, types.ModuleType)]
                self.assertEqual(drawn, [], path.name)

    def test_the_same_answers_whatever_the_order_of_a_set(self):
        rows = ["come swan sound lower up upper up", "come duck tarn upper down lower down", "come gull sound lower up",
                "knots", "advice lower", "plan", "take tarn 4", "work", "knots", "work", "plan", "work", "waters"]
        text = FLIGHT + "keeper 1000\n" + "\n".join(rows)
        program = "import sys\nfrom lockhouse.house import run\nsys.stdout.write(run(sys.stdin.read()))\n"
        for seed in ("0", "1", "4242"):
            said = subprocess.run([sys.executable, "-B", "-c", program], input=text, capture_output=True, text=True,
                                  cwd=ROOT, env={"PYTHONHASHSEED": seed}, check=True)
            self.assertEqual(said.stdout, run(text))

    def test_no_file_is_opened_while_a_house_answers(self):
        # The hook stays as long as its process does; so it has a process of its own.
        program = (
            "import sys\nfrom lockhouse.house import run\ntext = sys.stdin.read()\nseen = []\n"
            "sys.addaudithook(lambda event, handed: seen.append(event))\n"
            "run(text)\nheard = [event for event in seen if event != 'object.__getattr__']\nprint(heard)\n"
        )
        text = FLIGHT + "keeper\ncome swan sound lower up upper up\nwork\nknots\nadvice lower\nwaters\nplan\nnonsense\n"
        said = subprocess.run([sys.executable, "-B", "-c", program], input=text, capture_output=True, text=True,
                              cwd=ROOT,
                              check=True)
        self.assertEqual(said.stdout, "[]\n")


if __name__ == "__main__":
    unittest.main()
