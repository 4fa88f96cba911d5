"""The turns of boats that wait at a lock, and the fills that they need."""


def fills(full, row):
    needed = 0
    stands_full = full
    for way in row:
        if way == "up" or not stands_full:
            needed += 1
        stands_full = way == "up"
    return needed


def ends_full(full, row):
    return row[-1] == "up" if row else full


def fewest(full, ups, downs):
    return max(ups, downs - 1 if full else downs)


def thrifty(full, row):
    # Of one way the first that waits goes first; so it is enough to choose the way at each time.
    waiting = {"up": places_last_first(row, "up"), "down": places_last_first(row, "down")}
    order = []
    stands_full = full
    for turn in range(len(row)):
        way = next_way(stands_full, waiting)
        order.append(waiting[way].pop())
        stands_full = way == "up"
    return order


# Last first, so that the first one that waits can be popped off the end.
def places_last_first(row, way):
    return [place for place in range(len(row) - 1, -1, -1) if row[place] == way]


def next_way(full, waiting):
    if full:
        return "down" if waiting["down"] else "up"
    return "up" if waiting["up"] else "down"
