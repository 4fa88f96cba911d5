"""Answers shown as rows of text."""


def deeds_shown(canal, names, row):
    return ", ".join([deed_shown(canal, names, deed) for deed in row])


def deed_shown(canal, names, deed):
    if deed[0] == "pass":
        return "pass " + names[deed[1]]
    if deed[0] == "let":
        return "let " + canal.locks[deed[1]].name
    return "night"


def answer_shown(canal, names, answer):
    if answer[0] == "yes":
        return with_deeds("yes", canal, names, answer[1])
    if answer[0] == "no":
        return with_count("no", answer[1])
    return "not " + answer[1]


def knots_shown(canal, names, found):
    if found[0] == "free":
        return with_count("free", found[1])
    return with_deeds("knot", canal, names, found[1])


# No blank stands behind the word where no deed does.
def with_deeds(word, canal, names, row):
    return " ".join([word, deeds_shown(canal, names, row)]) if row else word


def with_count(word, layers):
    return " ".join([word, str(sum([len(layer) for layer in layers]))])
