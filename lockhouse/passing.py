"""How a boat passes a lock: the words of its machine, and the pours between its four vessels."""

UP = ("open low", "in low", "shut low", "fill", "open high", "out high", "shut high")
DOWN = ("open high", "in high", "shut high", "let", "open low", "out low", "shut low")


def passing(full, way):
    if way == "up":
        made_ready = ["let"] if full else []
        return made_ready + list(UP)
    made_ready = [] if full else ["fill"]
    return made_ready + list(DOWN)


def work(chamber, words):
    for word in words:
        chamber.do(word)


def filling(lock, basin):
    return [(giver, "chamber", amount) for giver, amount in lock.fill_parts(basin)]


def letting(lock, basin):
    return [("chamber", taker, amount) for taker, amount in lock.let_parts(basin)]


def passage(lock, full, basin, way):
    if way == "up":
        made_ready = letting(lock, basin) if full else []
        return made_ready + filling(lock, basin_after(basin, made_ready))
    made_ready = [] if full else filling(lock, basin)
    return made_ready + letting(lock, basin_after(basin, made_ready))


def basin_after(basin, pours):
    got = sum([amount for source, target, amount in pours if target == "basin"])
    return basin + got - given_by("basin", pours)


def given_by(vessel, pours):
    return sum([amount for source, target, amount in pours if source == vessel])
