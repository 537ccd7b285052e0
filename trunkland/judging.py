"""Judging: whether the bills of an exchange are those of its events (point 18)."""

from trunkland.calls import tell


def judge(events, tariff, bills, pending):
    """Return the findings about the events, the finished bills and the numbers of the unfinished ones."""
    calls, wrong = tell(events)
    findings = [("event", index) for index in wrong]
    # If a number has several bills, the last one counts.
    counting = {}
    for bill in bills:
        number = bill[0]
        if number in counting:
            findings.append(("twice", number))
        counting[number] = bill
    for call in calls:
        number = call[0]
        findings.extend(_judge_call(call, tariff, counting.get(number), number in pending))
    return findings


def _judge_call(call, tariff, bill, is_pending):
    """Return the findings about a call, as `tell` tells it, with its bill or None."""
    number, caller, callee, _, _, answered, ended, _, _, _, _ = call
    if answered is None or ended is None:
        is_wrong = is_pending != (answered is not None)
        findings = [("bill", number)] if bill is not None else []
        return findings + [("pending", number)] if is_wrong else findings
    if bill is None:
        return [("none", number)]
    right = (number, caller, callee, answered, ended, tariff.cost(ended - answered))
    return [("bill", number)] if tuple(bill) != right else []
