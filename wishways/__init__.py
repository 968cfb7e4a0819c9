"""Traffic between many pairs at once, along ties with rooms."""
