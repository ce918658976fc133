"""What audits share: which of their texts is none of its sort."""

from twinforks.plantexts import plan_fault, read_plan
from twinforks.tabletexts import table_fault


def first_wrong_text(faults):
    """What an audit tells of its texts' first wrong signs, told in order; None if all are texts of their sorts."""
    for which, fault in enumerate(faults):
        if fault is not None:
            return "text", which, fault
    return None


def net_table_fault(net, text):
    """The first wrong sign of a table's text of a net's ends, None if the net's own text is none."""
    if plan_fault(net) is not None:
        return None
    return table_fault(read_plan(net).ends(), text)
