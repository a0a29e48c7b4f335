"""Loop programs over tables that are stored level by level."""
