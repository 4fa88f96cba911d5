"""What a row of boats draws from the high reach of a lock, and what it leaves in the basin."""

from lockhouse.passing import basin_after, given_by, passage
from lockhouse.turns import ends_full


def drawn(lock, full, basin, row):
    return given_by("high", row_pours(lock, full, basin, row))


def basin_behind(lock, full, basin, row):
    return basin_after(basin, row_pours(lock, full, basin, row))


def row_pours(lock, full, basin, row):
    pours = []
    stands_full = full
    held = basin
    for way in row:
        passed = passage(lock, stands_full, held, way)
        pours.extend(passed)
        stands_full = ends_full(stands_full, [way])
        held = basin_after(held, passed)
    return pours
