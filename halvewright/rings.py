"""The rings of a map's undone drawing."""

from halvewright.drawing import Drawing


def undone(mapped):
    """The map's drawing with nothing left to undo."""
    drawing = Drawing(mapped)
    waiting = drawing.undoes()
    while waiting:
        drawing.undo(waiting[0])
        waiting = drawing.undoes()
    return drawing


def rings_of(mapped):
    """The rings of the map's undone drawing, from left to right."""
    return undone(mapped).rings()
