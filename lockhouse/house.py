"""The house: a text's canal and its keeper, and a row of text that answers each row that is asked."""

from lockhouse.advice import advice
from lockhouse.answers import answer_shown, knots_shown, with_deeds
from lockhouse.asks import first_word, lock_asked, most_of, parted
from lockhouse.book import Book
from lockhouse.errors import BadNumber, BadRow, CanalError, NotLinked, TooDry, TooMany, TooWide, Twice, Unknown
from lockhouse.journal import entry_of
from lockhouse.keeper import Keeper
from lockhouse.look import look_for_knot
from lockhouse.reading import canal_of
from lockhouse.words import text_of


def run(text):
    try:
        house = House(text)
    except BadRow:
        return text_of(["refused canal"])
    asked = parted(text)[1][1:]
    return text_of([house.ask(row) for row in asked])


def canal_told(text):
    try:
        return canal_of(text)
    except CanalError as refusal:
        raise BadRow("the canal is refused") from refusal


class House:
    def __init__(self, text):
        told = parted(text)
        if not told[1]:
            raise BadRow("no row begins with the word keeper")
        self.most = most_of(told[1][0])
        self.kept_canal = canal_told(told[0])
        self.kept_keeper = Keeper(Book(self.kept_canal), self.most)

    def canal(self):
        return self.kept_canal

    def keeper(self):
        return self.kept_keeper

    def ask(self, row):
        try:
            return self.answer_to(row)
        except BadRow:
            return "refused row"
        except Twice:
            return "refused twice"
        except TooMany:
            return "refused many"
        except Unknown:
            return "refused unknown"
        except NotLinked:
            return "refused linked"
        except BadNumber:
            return "refused number"
        except TooDry:
            return "refused dry"
        except TooWide:
            return "refused wide"

    def answer_to(self, row):
        if row == "work":
            return self.answered(self.kept_keeper.work())
        if row == "plan":
            return with_deeds("plan", self.kept_canal, self.names(), self.kept_keeper.plan())
        if row == "waters":
            return self.waters_row()
        if row == "knots":
            return self.knots_row()
        if first_word(row) == "advice":
            return " ".join(["advice"] + advice(self.kept_keeper.book(), lock_asked(row)))
        return self.answered(self.kept_keeper.wish(entry_of(row)))

    # The names are asked behind the wish: a plan may lead the boat that has just come.
    def answered(self, answer):
        return answer_shown(self.kept_canal, self.names(), answer)

    def names(self):
        return self.kept_keeper.book().names()

    def waters_row(self):
        waters = self.kept_keeper.book().state()[1]
        return " ".join(["waters"] + [str(water) for water in waters[:len(self.kept_canal.reaches)]])

    def knots_row(self):
        book = self.kept_keeper.book()
        found = look_for_knot(book.canal(), book.ways(), book.state(), self.most)
        return knots_shown(book.canal(), book.names(), found)
