"""The keeper: it lets be done only what still leads every boat home, and keeps a plan that does."""

from lockhouse.entries import deed_of, entry_of_deed
from lockhouse.errors import Torn
from lockhouse.look import look


class Keeper:
    def __init__(self, book, most=200):
        found = look(book.canal(), book.ways(), book.state(), most)
        if found[0] == "doomed":
            raise Torn("no row of deeds leads every boat home")
        self.kept_book = book.copied()
        self.most = most
        self.kept_plan = found[1]

    def plan(self):
        return list(self.kept_plan)

    def book(self):
        return self.kept_book.copied()

    def wish(self, entry):
        word = self.kept_book.fault(entry)
        if word != "":
            return ("not", word)
        # No look is needed: what leads home from a state leads home from each wetter one, too.
        if entry[0] == "rain":
            return self.say_yes(entry, self.kept_plan)
        if self.kept_plan[:1] == [deed_of(self.kept_book, entry)]:
            return self.say_yes(entry, self.kept_plan[1:])
        return self.wish_by_look(entry)

    def wish_by_look(self, entry):
        come_to = self.kept_book.behind(entry)
        found = look(self.kept_book.canal(), come_to[0], come_to[1], self.most)
        if found[0] == "doomed":
            return ("no", found[1])
        return self.say_yes(entry, found[1])

    def work(self):
        if not self.kept_plan:
            return ("not", "done")
        return self.say_yes(entry_of_deed(self.kept_book, self.kept_plan[0]), self.kept_plan[1:])

    def say_yes(self, entry, plan):
        self.kept_book.do(entry)
        self.kept_plan = plan
        return ("yes", list(plan))
