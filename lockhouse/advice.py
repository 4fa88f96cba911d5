"""Advice for a lock: who waits there, and in which order they had best go."""

from lockhouse.boats import next_step, steps_to_do
from lockhouse.turns import thrifty


def waiting(book, name):
    return [boat for boat, side in waiting_sides(book, name)]


def advice(book, name):
    row = waiting_sides(book, name)
    canal = book.canal()
    full = canal.full(book.state()[1], canal.lock_at(name))
    return [row[place][0] for place in thrifty(full, [side for boat, side in row])]


def waiting_sides(book, name):
    k = book.canal().lock_at(name)
    row = []
    for boat, way, place in zip(book.names(), book.ways(), book.state()[2]):
        if steps_to_do(way, place) > 0:
            step = next_step(way, place)
            if step[0] == k:
                row.append((boat, step[1]))
    return row
