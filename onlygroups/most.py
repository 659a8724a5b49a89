"""The bound on how many orders are listed one by one."""

MOST = 300
