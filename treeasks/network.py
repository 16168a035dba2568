"""Shortest paths over arcs (start, end, length, mark), lengths below nought among them, but no round below nought."""


def shortest(arcs, starts):
    # Starts are by places: what the path to a place is at first, None for a place that isn't reached yet.
    far = list(starts)
    last = [None] * len(far)
    # No shortest path has more arcs than there are places.
    for turn in starts:
        for arc in arcs:
            start, end, length, mark = arc
            if far[start] is not None and (far[end] is None or far[start] + length < far[end]):
                far[end] = far[start] + length
                last[end] = arc
    return (far, last)


def path_marks(last, end):
    marks = []
    while last[end] is not None:
        start, there, length, mark = last[end]
        marks.append(mark)
        end = start
    return marks
