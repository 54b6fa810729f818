"""Models as nets: as the difference of two greatest values."""

from hingeworks.models import Model, check_switches
from hingeworks.pairs import pair_of
from hingeworks.writing import fresh_names, plane_text


def net_of(model):
    """The model that is the difference of the two heaps of a continuous number model, at every point."""
    pair = pair_of(model)
    check_switches(len(pair.plus.planes) + len(pair.minus.planes) - 2)
    names = model.features.names
    plus, minus = fresh_names([*names, model.names[-1]], 2)
    lines = [model.features.text, heap_line(plus, pair.plus, names), heap_line(minus, pair.minus, names)]
    lines.append(f"sum {model.names[-1]} 0 {plus} 1 {minus} -1")
    return Model("\n".join(lines))


def heap_line(name, heap, names):
    """The line of the value that is the top of a heap."""
    word = "sum" if len(heap.planes) == 1 else "highest"
    texts = [plane_text(plane, names) for plane in heap.planes]
    return f"{word} {name} {' , '.join(texts)}"
