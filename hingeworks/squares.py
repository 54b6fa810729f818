"""Sum lines that are learned by least squares."""

from hingeworks.errors import BadNumber, NotFull, Unlike
from hingeworks.models import Model
from hingeworks.normals import Normal
from hingeworks.planes import Plane
from hingeworks.ratios import Ratio, as_ratio, is_ratio
from hingeworks.slopes import check_number_model
from hingeworks.working import worked
from hingeworks.writing import learned_name, plane_text


def least_squares(table, pull=0):
    """The model of the least square line of a table."""
    check_no_classes(table)
    check_pull(pull)
    normal = Normal(table, pull, [])
    multiples = normal.line_multiples()
    if multiples is None:
        raise NotFull(normal.column_rank())
    features = table.features
    text = plane_text(Plane(multiples[0], multiples[1:]), features.names)
    return Model(f"{features.text}\nsum {learned_name(features)} {text}")


def square_sum(model, table):
    """The sum of the squares of what a model tells less the label, over all rows."""
    if model.features != table.features:
        raise Unlike("features")
    check_number_model(model)
    check_no_classes(table)
    total = Ratio(0)
    for given, label in table.rows:
        gap = worked(model, given).told - label
        total = total + gap * gap
    return total


def check_no_classes(table):
    """Refuses a table whose labels are classes."""
    if table.tells == "class":
        raise Unlike("kind")


def check_pull(pull):
    """Refuses any value that is not a ratio from 0 on."""
    if not is_ratio(pull) or as_ratio(pull).top < 0:
        raise BadNumber("pull", pull)
