"""The book: a canal with its boats, how they stand, and all that has been done."""

from lockhouse.boats import begun
from lockhouse.entries import entry_pours, refuse_wrong, state_behind, ways_behind, why_no_entry, words_worked
from lockhouse.errors import NotNow


class Book:
    def __init__(self, canal):
        self.kept_canal = canal
        self.kept_names = []
        self.kept_ways = []
        self.kept_state = begun(canal, [])
        self.kept_pours = []
        self.kept_words = []
        self.kept_entries = []

    def canal(self):
        return self.kept_canal

    def names(self):
        return list(self.kept_names)

    def ways(self):
        return list(self.kept_ways)

    def state(self):
        return self.kept_state

    def ledger(self):
        return list(self.kept_pours)

    def gatework(self):
        return [(name, list(words)) for name, words in self.kept_words]

    def entries(self):
        return list(self.kept_entries)

    def fault(self, entry):
        refuse_wrong(self, entry)
        return why_no_entry(self, entry)

    def behind(self, entry):
        word = self.fault(entry)
        if word != "":
            raise NotNow(word)
        return (ways_behind(self, entry), state_behind(self, entry))

    def do(self, entry):
        # All that may be refused and all that is asked of the book as it stands comes ahead of the first change.
        come_to = self.behind(entry)
        poured = entry_pours(self, entry)
        worked = words_worked(self, entry)
        if entry[0] == "come":
            self.kept_names.append(entry[1])
        self.kept_ways = come_to[0]
        self.kept_state = come_to[1]
        self.kept_pours.extend(poured)
        self.kept_words.extend(worked)
        self.kept_entries.append(entry)

    def copied(self):
        twin = Book(self.kept_canal)
        twin.kept_names = self.names()
        twin.kept_ways = self.ways()
        twin.kept_state = self.kept_state
        twin.kept_pours = self.ledger()
        twin.kept_words = self.gatework()
        twin.kept_entries = self.entries()
        return twin
